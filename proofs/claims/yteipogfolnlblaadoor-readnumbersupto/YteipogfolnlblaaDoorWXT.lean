/-
  What is proved here: package read's dotted, where a datum stands behind the dot.
-/
import Derived.Test.YteipogfolnlblaaDoorWXS
namespace Go.Proofs.YteipogfolnlblaaDoor
open Go Go.RowKit
set_option maxHeartbeats 4000000 in
set_option maxRecDepth 100000 in
theorem dot_now0 (w0 : World) (rb : Nat) (t : ByteArray) (h x y k a d lo : Nat) (I : List (Tr (h + 1))) (ao : Option Addr) (cap : Nat) (q : LP) (w : World) (hs : RS w0 rb t a d w) (_hrl : rb < lo) (hlo : lo ≤ w.heap.size)
    (hn1 : ∀ W, RS w0 rb t a d W → Calls Tryd.prog 14 #[.pointer (some ⟨rb, 0, none⟩)] W fun e w' => e = .returned (pcP q) ∧ RS w0 rb t q.a d w' ∧ Kr rb W w') (h4 : q.k ≠ 4) (x2 y2 a1 : Nat) (tr : Tr (h + 1)) (p : LP)
    (hd1 : ∀ W, RS w0 rb t q.a d W → Calls Tryd.prog 13 #[.pointer (some ⟨rb, 0, none⟩), pcP q] W fun e w' => DPost w0 rb t d W ((.inr (x2, y2, tr, a1) : RD _)) e w')
    (hn2 : ∀ W, RS w0 rb t a1 d W → Calls Tryd.prog 14 #[.pointer (some ⟨rb, 0, none⟩)] W fun e w' => e = .returned (pcP p) ∧ RS w0 rb t p.a d w' ∧ Kr rb W w') (hp : p.k = 0) (tx ty tdk tn ter ta : Nat) (ts : ByteArray)
    (hd2 : ∀ W, RS w0 rb t p.a d W → Calls Tryd.prog 13 #[.pointer (some ⟨rb, 0, none⟩), pcP p] W fun e w' => DPost w0 rb t d W ((.inl ⟨tx, ty, 11, tdk, tn, ts, ter, ta⟩ : RD (h + 1))) e w') :
    Calls Tryd.prog 71 #[.pointer (some ⟨rb, 0, none⟩), pc0 x (y : Int) k, .agg #[.int .i64 6, .int .i64 0, .bool false, .slice none 0 0, .string ⟨#[]⟩, .slice ao I.length cap, .slice none 0 0]] w fun e w' => LPost w0 rb t d lo w ((.inl ⟨tx, ty, 11, tdk, tn, ts, ter, ta⟩ : RD (h + 2))) e w' := by
  have g1 := heap_alloc_new w (.cells #[.int .i64 x, .int .i64 (y : Int), .int .i64 (k : Int), .int .i64 0, .int .i64 0, .bool false, .slice none 0 0, .string ⟨#[]⟩, .slice none 0 0, .slice none 0 0, .int .i64 0] 50)
  have u1 := up_alloc w (.cells #[.int .i64 x, .int .i64 (y : Int), .int .i64 (k : Int), .int .i64 0, .int .i64 0, .bool false, .slice none 0 0, .string ⟨#[]⟩, .slice none 0 0, .slice none 0 0, .int .i64 0] 50)
  have z1 : (w.alloc (.cells #[.int .i64 x, .int .i64 (y : Int), .int .i64 (k : Int), .int .i64 0, .int .i64 0, .bool false, .slice none 0 0, .string ⟨#[]⟩, .slice none 0 0, .slice none 0 0, .int .i64 0] 50)).heap.size = w.heap.size + 1 := World.size_alloc _ _
  obtain ⟨W1, hW1⟩ : ∃ W1, W1 = w.alloc (.cells #[.int .i64 x, .int .i64 (y : Int), .int .i64 (k : Int), .int .i64 0, .int .i64 0, .bool false, .slice none 0 0, .string ⟨#[]⟩, .slice none 0 0, .slice none 0 0, .int .i64 0] 50) := ⟨_, rfl⟩
  rw [← hW1] at g1 u1 z1
  have g2 : (W1.alloc (.cells #[.int .i64 6, .int .i64 0, .bool false, .slice none 0 0, .string ⟨#[]⟩, .slice ao I.length cap, .slice none 0 0] 31)).heap[w.heap.size + 1]? = some (.cells #[.int .i64 6, .int .i64 0, .bool false, .slice none 0 0, .string ⟨#[]⟩, .slice ao I.length cap, .slice none 0 0] 31) := by rw [← z1]; exact heap_alloc_new W1 _
  have u2 := up_alloc W1 (.cells #[.int .i64 6, .int .i64 0, .bool false, .slice none 0 0, .string ⟨#[]⟩, .slice ao I.length cap, .slice none 0 0] 31)
  have z2 : (W1.alloc (.cells #[.int .i64 6, .int .i64 0, .bool false, .slice none 0 0, .string ⟨#[]⟩, .slice ao I.length cap, .slice none 0 0] 31)).heap.size = w.heap.size + 2 := by rw [World.size_alloc, z1]
  obtain ⟨W2, hW2⟩ : ∃ W2, W2 = W1.alloc (.cells #[.int .i64 6, .int .i64 0, .bool false, .slice none 0 0, .string ⟨#[]⟩, .slice ao I.length cap, .slice none 0 0] 31) := ⟨_, rfl⟩
  rw [← hW2] at g2 u2 z2
  have g3 : (W2.alloc zer11).heap[w.heap.size + 2]? = some zer11 := by rw [← z2]; exact heap_alloc_new W2 _
  have u3 := up_alloc W2 zer11
  have z3 : (W2.alloc zer11).heap.size = w.heap.size + 3 := by rw [World.size_alloc, z2]
  have b1 := (u2.tr u3).old g1
  have b2 := u3.old g2
  have uC := u1.tr (u2.tr u3)
  have hlt : rb < w.heap.size := hs.lt
  have hA := hs.more5 uC
  have KN := hn1 _ hA
  have HN := hide KN
  have HG := hide (And.intro b1 (And.intro b2 (And.intro g3 (And.intro uC (And.intro hlt (And.intro z3 hs.up.size))))))
  rw [hW2, hW1] at HN HG
  unfold zer11 at HN HG
  unfold pcP pcV at HN
  clear g1 u1 z1 g2 u2 z2 g3 u3 z3 b1 b2 uC hlt hA KN hn1 hs
  clear hW2 W2
  clear hW1 W1
  have c4 : ¬ ((q.k : Int) = 4) := by omega
  unfold DPost pcP pcV at hd1
  have HD := hide hd1
  clear hd1 h4
  obtain ⟨px, py, pk, pdk, pn, ps, per, pa⟩ := p
  have hp : pk = 0 := hp
  subst hp
  unfold pcP pcV at hn2
  have HN2 := hide hn2
  unfold DPost pcP pcV at hd2
  have HD2 := hide hd2
  clear hn2 hd2
  unfold pc0 pcV
  go_enter Tryd.func71, Tryd.ntmps71
  go_wp2_with (first
    | (have h9 : Nat := w8.heap.size; clear h9; go_at_call 13; refine (HD2.out _ H8.out.1).mono ?_; rintro e w9 ⟨k9, rfl, -, h9⟩; have K9 := H8.out.2.1.tr k9; have g9 := K9.old (by have := HG.out.2.2.2.2.1; omega) HG.out.2.2.1; obtain ⟨f0, f1, f2, f3, f4, f5, f6, f7, f8, f9, f10⟩ := frozen11 g9; obtain ⟨d0, d1, d2, d3, d4, d5, d6, d7, d8, d9, d10⟩ := cells11 g9; have H9 := hide (And.intro g9 (And.intro K9 h9)); clear h9 k9 K9 g9)
    | (have h9 : Nat := w6.heap.size; clear h9; go_at_call 14; refine (HN2.out _ H7.out.1).mono ?_; rintro e w8 ⟨rfl, h8, k8⟩; have u8 := up_alloc w8 (.cells #[.int .i64 (px : Int), .int .i64 (py : Int), .int .i64 0, .int .i64 (pdk : Int), .int .i64 (pn : Int), .bool false, .slice none 0 0, .string ps, .slice none 0 0, .slice none 0 0, .int .i64 (per : Int)] 50); have H8 := hide (And.intro (h8.more5 u8) (And.intro ((H7.out.2.1.tr k8).tr (Kr.of_up u8)) (And.intro k8 u8))); clear h8 k8 u8)
    | (go_at_call 14; refine HN.out.mono ?_; rintro e w4 ⟨rfl, h4, k4⟩; have u5 := up_alloc w4 (.cells #[.int .i64 (q.x : Int), .int .i64 (q.y : Int), .int .i64 (q.k : Int), .int .i64 (q.dk : Int), .int .i64 (q.n : Int), .bool false, .slice none 0 0, .string q.s, .slice none 0 0, .slice none 0 0, .int .i64 (q.er : Int)] 50); have H5 := hide (And.intro (h4.more5 u5) (And.intro (k4.tr (Kr.of_up u5)) k4.1.size)); clear h4 k4 u5)
    | (go_at_call 13; refine (HD.out _ H5.out.1).mono ?_; rintro e w6 ⟨k6, ck, cn, cb, j1, j2, j3, cs, i1, i2, i3, r1, r2, r3, rfl, hq6, h6⟩; have u7 := up_alloc w6 (.cells #[.int .i64 (x2 : Int), .int .i64 (y2 : Int), .int .i64 10, .int .i64 ck, .int .i64 cn, .bool cb, .slice j1 j2 j3, .string cs, .slice i1 i2 i3, .slice r1 r2 r3, .int .i64 0] 50); have H7 := hide (And.intro (h6.more5 u7) (And.intro ((H5.out.2.1.tr k6).tr (Kr.of_up u7)) (And.intro hq6 (And.intro u7 (And.intro (heap_alloc_new w6 (.cells #[.int .i64 (x2 : Int), .int .i64 (y2 : Int), .int .i64 10, .int .i64 ck, .int .i64 cn, .bool cb, .slice j1 j2 j3, .string cs, .slice i1 i2 i3, .slice r1 r2 r3, .int .i64 0] 50)) k6.1.size))))); clear h6 k6 u7 hq6))
  obtain ⟨g9, k9, h9⟩ := H9.out
  obtain ⟨q1, q2⟩ := sto11 g9 (.int .i64 (tx : Int)) (.int .i64 (ty : Int)) (.int .i64 11) (.int .i64 (tdk : Int)) (.int .i64 (tn : Int)) (.bool false) (.slice none 0 0) (.string ts) (.slice none 0 0) (.slice none 0 0) (.int .i64 (ter : Int))
  clear f0 f1 f2 f3 f4 f5 f6 f7 f8 f9 f10 d0 d1 d2 d3 d4 d5 d6 d7 d8 d9 d10
  generalize (((((((((((w9.setCell ⟨(w.heap.size + 2), 0, none⟩ (.int .i64 (tx : Int))).setCell ⟨(w.heap.size + 2), 1, none⟩ (.int .i64 (ty : Int))).setCell ⟨(w.heap.size + 2), 2, none⟩ (.int .i64 11)).setCell ⟨(w.heap.size + 2), 3, none⟩ (.int .i64 (tdk : Int))).setCell ⟨(w.heap.size + 2), 4, none⟩ (.int .i64 (tn : Int))).setCell ⟨(w.heap.size + 2), 5, none⟩ (.bool false)).setCell ⟨(w.heap.size + 2), 6, none⟩ (.slice none 0 0)).setCell ⟨(w.heap.size + 2), 7, none⟩ (.string ts)).setCell ⟨(w.heap.size + 2), 8, none⟩ (.slice none 0 0)).setCell ⟨(w.heap.size + 2), 9, none⟩ (.slice none 0 0)).setCell ⟨(w.heap.size + 2), 10, none⟩ (.int .i64 (ter : Int))) = W12 at *
  obtain ⟨d0, d1, d2, d3, d4, d5, d6, d7, d8, d9, d10⟩ := cells11 q1
  refine bodyPost_ret (by simp [results, Tryd.results71, go_sem, d0, d1, d2, d3, d4, d5, d6, d7, d8, d9, d10]; rfl) rfl ?_
  obtain ⟨-, -, -, uC, hlt, z3, hsz⟩ := HG.out
  exact ⟨Kl.of uC k9 q2 hlo (by omega), by simp [pcP, pcV], rfl, ⟨q2.up h9.up (by omega), h9.ge, q2.old (by omega) h9.cs⟩⟩

set_option maxHeartbeats 4000000 in
set_option maxRecDepth 100000 in
theorem dot_now11 (w0 : World) (rb : Nat) (t : ByteArray) (h x y k a d lo : Nat) (I : List (Tr (h + 1))) (ao : Option Addr) (cap : Nat) (q : LP) (w : World) (hs : RS w0 rb t a d w) (_hrl : rb < lo) (hlo : lo ≤ w.heap.size)
    (hn1 : ∀ W, RS w0 rb t a d W → Calls Tryd.prog 14 #[.pointer (some ⟨rb, 0, none⟩)] W fun e w' => e = .returned (pcP q) ∧ RS w0 rb t q.a d w' ∧ Kr rb W w') (h4 : q.k ≠ 4) (x2 y2 a1 : Nat) (tr : Tr (h + 1)) (p : LP)
    (hd1 : ∀ W, RS w0 rb t q.a d W → Calls Tryd.prog 13 #[.pointer (some ⟨rb, 0, none⟩), pcP q] W fun e w' => DPost w0 rb t d W ((.inr (x2, y2, tr, a1) : RD _)) e w')
    (hn2 : ∀ W, RS w0 rb t a1 d W → Calls Tryd.prog 14 #[.pointer (some ⟨rb, 0, none⟩)] W fun e w' => e = .returned (pcP p) ∧ RS w0 rb t p.a d w' ∧ Kr rb W w') (hp : p.k = 11) (tx ty tdk tn ter ta : Nat) (ts : ByteArray)
    (hd2 : ∀ W, RS w0 rb t p.a d W → Calls Tryd.prog 13 #[.pointer (some ⟨rb, 0, none⟩), pcP p] W fun e w' => DPost w0 rb t d W ((.inl ⟨tx, ty, 11, tdk, tn, ts, ter, ta⟩ : RD (h + 1))) e w') :
    Calls Tryd.prog 71 #[.pointer (some ⟨rb, 0, none⟩), pc0 x (y : Int) k, .agg #[.int .i64 6, .int .i64 0, .bool false, .slice none 0 0, .string ⟨#[]⟩, .slice ao I.length cap, .slice none 0 0]] w fun e w' => LPost w0 rb t d lo w ((.inl ⟨tx, ty, 11, tdk, tn, ts, ter, ta⟩ : RD (h + 2))) e w' := by
  have g1 := heap_alloc_new w (.cells #[.int .i64 x, .int .i64 (y : Int), .int .i64 (k : Int), .int .i64 0, .int .i64 0, .bool false, .slice none 0 0, .string ⟨#[]⟩, .slice none 0 0, .slice none 0 0, .int .i64 0] 50)
  have u1 := up_alloc w (.cells #[.int .i64 x, .int .i64 (y : Int), .int .i64 (k : Int), .int .i64 0, .int .i64 0, .bool false, .slice none 0 0, .string ⟨#[]⟩, .slice none 0 0, .slice none 0 0, .int .i64 0] 50)
  have z1 : (w.alloc (.cells #[.int .i64 x, .int .i64 (y : Int), .int .i64 (k : Int), .int .i64 0, .int .i64 0, .bool false, .slice none 0 0, .string ⟨#[]⟩, .slice none 0 0, .slice none 0 0, .int .i64 0] 50)).heap.size = w.heap.size + 1 := World.size_alloc _ _
  obtain ⟨W1, hW1⟩ : ∃ W1, W1 = w.alloc (.cells #[.int .i64 x, .int .i64 (y : Int), .int .i64 (k : Int), .int .i64 0, .int .i64 0, .bool false, .slice none 0 0, .string ⟨#[]⟩, .slice none 0 0, .slice none 0 0, .int .i64 0] 50) := ⟨_, rfl⟩
  rw [← hW1] at g1 u1 z1
  have g2 : (W1.alloc (.cells #[.int .i64 6, .int .i64 0, .bool false, .slice none 0 0, .string ⟨#[]⟩, .slice ao I.length cap, .slice none 0 0] 31)).heap[w.heap.size + 1]? = some (.cells #[.int .i64 6, .int .i64 0, .bool false, .slice none 0 0, .string ⟨#[]⟩, .slice ao I.length cap, .slice none 0 0] 31) := by rw [← z1]; exact heap_alloc_new W1 _
  have u2 := up_alloc W1 (.cells #[.int .i64 6, .int .i64 0, .bool false, .slice none 0 0, .string ⟨#[]⟩, .slice ao I.length cap, .slice none 0 0] 31)
  have z2 : (W1.alloc (.cells #[.int .i64 6, .int .i64 0, .bool false, .slice none 0 0, .string ⟨#[]⟩, .slice ao I.length cap, .slice none 0 0] 31)).heap.size = w.heap.size + 2 := by rw [World.size_alloc, z1]
  obtain ⟨W2, hW2⟩ : ∃ W2, W2 = W1.alloc (.cells #[.int .i64 6, .int .i64 0, .bool false, .slice none 0 0, .string ⟨#[]⟩, .slice ao I.length cap, .slice none 0 0] 31) := ⟨_, rfl⟩
  rw [← hW2] at g2 u2 z2
  have g3 : (W2.alloc zer11).heap[w.heap.size + 2]? = some zer11 := by rw [← z2]; exact heap_alloc_new W2 _
  have u3 := up_alloc W2 zer11
  have z3 : (W2.alloc zer11).heap.size = w.heap.size + 3 := by rw [World.size_alloc, z2]
  have b1 := (u2.tr u3).old g1
  have b2 := u3.old g2
  have uC := u1.tr (u2.tr u3)
  have hlt : rb < w.heap.size := hs.lt
  have hA := hs.more5 uC
  have KN := hn1 _ hA
  have HN := hide KN
  have HG := hide (And.intro b1 (And.intro b2 (And.intro g3 (And.intro uC (And.intro hlt (And.intro z3 hs.up.size))))))
  rw [hW2, hW1] at HN HG
  unfold zer11 at HN HG
  unfold pcP pcV at HN
  clear g1 u1 z1 g2 u2 z2 g3 u3 z3 b1 b2 uC hlt hA KN hn1 hs
  clear hW2 W2
  clear hW1 W1
  have c4 : ¬ ((q.k : Int) = 4) := by omega
  unfold DPost pcP pcV at hd1
  have HD := hide hd1
  clear hd1 h4
  obtain ⟨px, py, pk, pdk, pn, ps, per, pa⟩ := p
  have hp : pk = 11 := hp
  subst hp
  unfold pcP pcV at hn2
  have HN2 := hide hn2
  unfold DPost pcP pcV at hd2
  have HD2 := hide hd2
  clear hn2 hd2
  unfold pc0 pcV
  go_enter Tryd.func71, Tryd.ntmps71
  go_wp2_with (first
    | (have h9 : Nat := w8.heap.size; clear h9; go_at_call 13; refine (HD2.out _ H8.out.1).mono ?_; rintro e w9 ⟨k9, rfl, -, h9⟩; have K9 := H8.out.2.1.tr k9; have g9 := K9.old (by have := HG.out.2.2.2.2.1; omega) HG.out.2.2.1; obtain ⟨f0, f1, f2, f3, f4, f5, f6, f7, f8, f9, f10⟩ := frozen11 g9; obtain ⟨d0, d1, d2, d3, d4, d5, d6, d7, d8, d9, d10⟩ := cells11 g9; have H9 := hide (And.intro g9 (And.intro K9 h9)); clear h9 k9 K9 g9)
    | (have h9 : Nat := w6.heap.size; clear h9; go_at_call 14; refine (HN2.out _ H7.out.1).mono ?_; rintro e w8 ⟨rfl, h8, k8⟩; have u8 := up_alloc w8 (.cells #[.int .i64 (px : Int), .int .i64 (py : Int), .int .i64 11, .int .i64 (pdk : Int), .int .i64 (pn : Int), .bool false, .slice none 0 0, .string ps, .slice none 0 0, .slice none 0 0, .int .i64 (per : Int)] 50); have H8 := hide (And.intro (h8.more5 u8) (And.intro ((H7.out.2.1.tr k8).tr (Kr.of_up u8)) (And.intro k8 u8))); clear h8 k8 u8)
    | (go_at_call 14; refine HN.out.mono ?_; rintro e w4 ⟨rfl, h4, k4⟩; have u5 := up_alloc w4 (.cells #[.int .i64 (q.x : Int), .int .i64 (q.y : Int), .int .i64 (q.k : Int), .int .i64 (q.dk : Int), .int .i64 (q.n : Int), .bool false, .slice none 0 0, .string q.s, .slice none 0 0, .slice none 0 0, .int .i64 (q.er : Int)] 50); have H5 := hide (And.intro (h4.more5 u5) (And.intro (k4.tr (Kr.of_up u5)) k4.1.size)); clear h4 k4 u5)
    | (go_at_call 13; refine (HD.out _ H5.out.1).mono ?_; rintro e w6 ⟨k6, ck, cn, cb, j1, j2, j3, cs, i1, i2, i3, r1, r2, r3, rfl, hq6, h6⟩; have u7 := up_alloc w6 (.cells #[.int .i64 (x2 : Int), .int .i64 (y2 : Int), .int .i64 10, .int .i64 ck, .int .i64 cn, .bool cb, .slice j1 j2 j3, .string cs, .slice i1 i2 i3, .slice r1 r2 r3, .int .i64 0] 50); have H7 := hide (And.intro (h6.more5 u7) (And.intro ((H5.out.2.1.tr k6).tr (Kr.of_up u7)) (And.intro hq6 (And.intro u7 (And.intro (heap_alloc_new w6 (.cells #[.int .i64 (x2 : Int), .int .i64 (y2 : Int), .int .i64 10, .int .i64 ck, .int .i64 cn, .bool cb, .slice j1 j2 j3, .string cs, .slice i1 i2 i3, .slice r1 r2 r3, .int .i64 0] 50)) k6.1.size))))); clear h6 k6 u7 hq6))
  obtain ⟨g9, k9, h9⟩ := H9.out
  obtain ⟨q1, q2⟩ := sto11 g9 (.int .i64 (tx : Int)) (.int .i64 (ty : Int)) (.int .i64 11) (.int .i64 (tdk : Int)) (.int .i64 (tn : Int)) (.bool false) (.slice none 0 0) (.string ts) (.slice none 0 0) (.slice none 0 0) (.int .i64 (ter : Int))
  clear f0 f1 f2 f3 f4 f5 f6 f7 f8 f9 f10 d0 d1 d2 d3 d4 d5 d6 d7 d8 d9 d10
  generalize (((((((((((w9.setCell ⟨(w.heap.size + 2), 0, none⟩ (.int .i64 (tx : Int))).setCell ⟨(w.heap.size + 2), 1, none⟩ (.int .i64 (ty : Int))).setCell ⟨(w.heap.size + 2), 2, none⟩ (.int .i64 11)).setCell ⟨(w.heap.size + 2), 3, none⟩ (.int .i64 (tdk : Int))).setCell ⟨(w.heap.size + 2), 4, none⟩ (.int .i64 (tn : Int))).setCell ⟨(w.heap.size + 2), 5, none⟩ (.bool false)).setCell ⟨(w.heap.size + 2), 6, none⟩ (.slice none 0 0)).setCell ⟨(w.heap.size + 2), 7, none⟩ (.string ts)).setCell ⟨(w.heap.size + 2), 8, none⟩ (.slice none 0 0)).setCell ⟨(w.heap.size + 2), 9, none⟩ (.slice none 0 0)).setCell ⟨(w.heap.size + 2), 10, none⟩ (.int .i64 (ter : Int))) = W12 at *
  obtain ⟨d0, d1, d2, d3, d4, d5, d6, d7, d8, d9, d10⟩ := cells11 q1
  refine bodyPost_ret (by simp [results, Tryd.results71, go_sem, d0, d1, d2, d3, d4, d5, d6, d7, d8, d9, d10]; rfl) rfl ?_
  obtain ⟨-, -, -, uC, hlt, z3, hsz⟩ := HG.out
  exact ⟨Kl.of uC k9 q2 hlo (by omega), by simp [pcP, pcV], rfl, ⟨q2.up h9.up (by omega), h9.ge, q2.old (by omega) h9.cs⟩⟩

set_option maxHeartbeats 4000000 in
set_option maxRecDepth 100000 in
theorem dot_more (w0 : World) (rb : Nat) (t : ByteArray) (h x y k a d lo : Nat) (I : List (Tr (h + 1))) (ao : Option Addr) (cap : Nat) (q : LP) (w : World) (hs : RS w0 rb t a d w) (_hrl : rb < lo) (hlo : lo ≤ w.heap.size)
    (hn1 : ∀ W, RS w0 rb t a d W → Calls Tryd.prog 14 #[.pointer (some ⟨rb, 0, none⟩)] W fun e w' => e = .returned (pcP q) ∧ RS w0 rb t q.a d w' ∧ Kr rb W w') (h4 : q.k ≠ 4) (x2 y2 a1 : Nat) (tr : Tr (h + 1)) (p : LP)
    (hd1 : ∀ W, RS w0 rb t q.a d W → Calls Tryd.prog 13 #[.pointer (some ⟨rb, 0, none⟩), pcP q] W fun e w' => DPost w0 rb t d W ((.inr (x2, y2, tr, a1) : RD _)) e w')
    (hn2 : ∀ W, RS w0 rb t a1 d W → Calls Tryd.prog 14 #[.pointer (some ⟨rb, 0, none⟩)] W fun e w' => e = .returned (pcP p) ∧ RS w0 rb t p.a d w' ∧ Kr rb W w') (p4 : p.k ≠ 4) (p0 : p.k ≠ 0) (p11 : p.k ≠ 11) :
    Calls Tryd.prog 71 #[.pointer (some ⟨rb, 0, none⟩), pc0 x (y : Int) k, .agg #[.int .i64 6, .int .i64 0, .bool false, .slice none 0 0, .string ⟨#[]⟩, .slice ao I.length cap, .slice none 0 0]] w fun e w' => LPost w0 rb t d lo w ((.inl (ftP p.x 15 p.a) : RD (h + 2))) e w' := by
  have g1 := heap_alloc_new w (.cells #[.int .i64 x, .int .i64 (y : Int), .int .i64 (k : Int), .int .i64 0, .int .i64 0, .bool false, .slice none 0 0, .string ⟨#[]⟩, .slice none 0 0, .slice none 0 0, .int .i64 0] 50)
  have u1 := up_alloc w (.cells #[.int .i64 x, .int .i64 (y : Int), .int .i64 (k : Int), .int .i64 0, .int .i64 0, .bool false, .slice none 0 0, .string ⟨#[]⟩, .slice none 0 0, .slice none 0 0, .int .i64 0] 50)
  have z1 : (w.alloc (.cells #[.int .i64 x, .int .i64 (y : Int), .int .i64 (k : Int), .int .i64 0, .int .i64 0, .bool false, .slice none 0 0, .string ⟨#[]⟩, .slice none 0 0, .slice none 0 0, .int .i64 0] 50)).heap.size = w.heap.size + 1 := World.size_alloc _ _
  obtain ⟨W1, hW1⟩ : ∃ W1, W1 = w.alloc (.cells #[.int .i64 x, .int .i64 (y : Int), .int .i64 (k : Int), .int .i64 0, .int .i64 0, .bool false, .slice none 0 0, .string ⟨#[]⟩, .slice none 0 0, .slice none 0 0, .int .i64 0] 50) := ⟨_, rfl⟩
  rw [← hW1] at g1 u1 z1
  have g2 : (W1.alloc (.cells #[.int .i64 6, .int .i64 0, .bool false, .slice none 0 0, .string ⟨#[]⟩, .slice ao I.length cap, .slice none 0 0] 31)).heap[w.heap.size + 1]? = some (.cells #[.int .i64 6, .int .i64 0, .bool false, .slice none 0 0, .string ⟨#[]⟩, .slice ao I.length cap, .slice none 0 0] 31) := by rw [← z1]; exact heap_alloc_new W1 _
  have u2 := up_alloc W1 (.cells #[.int .i64 6, .int .i64 0, .bool false, .slice none 0 0, .string ⟨#[]⟩, .slice ao I.length cap, .slice none 0 0] 31)
  have z2 : (W1.alloc (.cells #[.int .i64 6, .int .i64 0, .bool false, .slice none 0 0, .string ⟨#[]⟩, .slice ao I.length cap, .slice none 0 0] 31)).heap.size = w.heap.size + 2 := by rw [World.size_alloc, z1]
  obtain ⟨W2, hW2⟩ : ∃ W2, W2 = W1.alloc (.cells #[.int .i64 6, .int .i64 0, .bool false, .slice none 0 0, .string ⟨#[]⟩, .slice ao I.length cap, .slice none 0 0] 31) := ⟨_, rfl⟩
  rw [← hW2] at g2 u2 z2
  have g3 : (W2.alloc zer11).heap[w.heap.size + 2]? = some zer11 := by rw [← z2]; exact heap_alloc_new W2 _
  have u3 := up_alloc W2 zer11
  have z3 : (W2.alloc zer11).heap.size = w.heap.size + 3 := by rw [World.size_alloc, z2]
  have b1 := (u2.tr u3).old g1
  have b2 := u3.old g2
  have uC := u1.tr (u2.tr u3)
  have hlt : rb < w.heap.size := hs.lt
  have hA := hs.more5 uC
  have KN := hn1 _ hA
  have HN := hide KN
  have HG := hide (And.intro b1 (And.intro b2 (And.intro g3 (And.intro uC (And.intro hlt (And.intro z3 hs.up.size))))))
  rw [hW2, hW1] at HN HG
  unfold zer11 at HN HG
  unfold pcP pcV at HN
  clear g1 u1 z1 g2 u2 z2 g3 u3 z3 b1 b2 uC hlt hA KN hn1 hs
  clear hW2 W2
  clear hW1 W1
  have c4 : ¬ ((q.k : Int) = 4) := by omega
  unfold DPost pcP pcV at hd1
  have HD := hide hd1
  clear hd1 h4
  have e4 : ¬ ((p.k : Int) = 4) := by omega
  have e0 : ¬ ((p.k : Int) = 0) := by omega
  have e11 : ¬ ((p.k : Int) = 11) := by omega
  unfold pcP pcV at hn2
  have HN2 := hide hn2
  have HF := hide (fun (W : World) => fault_any p.x 15 W)
  unfold pcV at HF
  clear hn2 p4 p0 p11
  unfold pc0 pcV
  go_enter Tryd.func71, Tryd.ntmps71
  go_wp2_with (first
    | (go_at_call 22; refine (HF.out _).mono ?_; rintro e w9 ⟨rfl, u9⟩; have K9 := H8.out.2.1.tr (Kr.of_up u9); have g9 := K9.old (by have := HG.out.2.2.2.2.1; omega) HG.out.2.2.1; obtain ⟨f0, f1, f2, f3, f4, f5, f6, f7, f8, f9, f10⟩ := frozen11 g9; obtain ⟨d0, d1, d2, d3, d4, d5, d6, d7, d8, d9, d10⟩ := cells11 g9; have H9 := hide (And.intro g9 (And.intro K9 (H8.out.1.more5 u9))); clear u9 K9 g9)
    | (have h9 : Nat := w6.heap.size; clear h9; go_at_call 14; refine (HN2.out _ H7.out.1).mono ?_; rintro e w8 ⟨rfl, h8, k8⟩; have u8 := up_alloc w8 (.cells #[.int .i64 (p.x : Int), .int .i64 (p.y : Int), .int .i64 (p.k : Int), .int .i64 (p.dk : Int), .int .i64 (p.n : Int), .bool false, .slice none 0 0, .string p.s, .slice none 0 0, .slice none 0 0, .int .i64 (p.er : Int)] 50); have H8 := hide (And.intro (h8.more5 u8) (And.intro ((H7.out.2.1.tr k8).tr (Kr.of_up u8)) (And.intro k8 u8))); clear h8 k8 u8)
    | (go_at_call 14; refine HN.out.mono ?_; rintro e w4 ⟨rfl, h4, k4⟩; have u5 := up_alloc w4 (.cells #[.int .i64 (q.x : Int), .int .i64 (q.y : Int), .int .i64 (q.k : Int), .int .i64 (q.dk : Int), .int .i64 (q.n : Int), .bool false, .slice none 0 0, .string q.s, .slice none 0 0, .slice none 0 0, .int .i64 (q.er : Int)] 50); have H5 := hide (And.intro (h4.more5 u5) (And.intro (k4.tr (Kr.of_up u5)) k4.1.size)); clear h4 k4 u5)
    | (go_at_call 13; refine (HD.out _ H5.out.1).mono ?_; rintro e w6 ⟨k6, ck, cn, cb, j1, j2, j3, cs, i1, i2, i3, r1, r2, r3, rfl, hq6, h6⟩; have u7 := up_alloc w6 (.cells #[.int .i64 (x2 : Int), .int .i64 (y2 : Int), .int .i64 10, .int .i64 ck, .int .i64 cn, .bool cb, .slice j1 j2 j3, .string cs, .slice i1 i2 i3, .slice r1 r2 r3, .int .i64 0] 50); have H7 := hide (And.intro (h6.more5 u7) (And.intro ((H5.out.2.1.tr k6).tr (Kr.of_up u7)) (And.intro hq6 (And.intro u7 (And.intro (heap_alloc_new w6 (.cells #[.int .i64 (x2 : Int), .int .i64 (y2 : Int), .int .i64 10, .int .i64 ck, .int .i64 cn, .bool cb, .slice j1 j2 j3, .string cs, .slice i1 i2 i3, .slice r1 r2 r3, .int .i64 0] 50)) k6.1.size))))); clear h6 k6 u7 hq6))
  obtain ⟨g9, k9, h9⟩ := H9.out
  obtain ⟨q1, q2⟩ := sto11 g9 (.int .i64 (p.x : Int)) (.int .i64 (p.x : Int)) (.int .i64 11) (.int .i64 0) (.int .i64 0) (.bool false) (.slice none 0 0) (.string ⟨#[]⟩) (.slice none 0 0) (.slice none 0 0) (.int .i64 15)
  clear f0 f1 f2 f3 f4 f5 f6 f7 f8 f9 f10 d0 d1 d2 d3 d4 d5 d6 d7 d8 d9 d10
  generalize (((((((((((w9.setCell ⟨(w.heap.size + 2), 0, none⟩ (.int .i64 (p.x : Int))).setCell ⟨(w.heap.size + 2), 1, none⟩ (.int .i64 (p.x : Int))).setCell ⟨(w.heap.size + 2), 2, none⟩ (.int .i64 11)).setCell ⟨(w.heap.size + 2), 3, none⟩ (.int .i64 0)).setCell ⟨(w.heap.size + 2), 4, none⟩ (.int .i64 0)).setCell ⟨(w.heap.size + 2), 5, none⟩ (.bool false)).setCell ⟨(w.heap.size + 2), 6, none⟩ (.slice none 0 0)).setCell ⟨(w.heap.size + 2), 7, none⟩ (.string ⟨#[]⟩)).setCell ⟨(w.heap.size + 2), 8, none⟩ (.slice none 0 0)).setCell ⟨(w.heap.size + 2), 9, none⟩ (.slice none 0 0)).setCell ⟨(w.heap.size + 2), 10, none⟩ (.int .i64 15)) = W12 at *
  obtain ⟨d0, d1, d2, d3, d4, d5, d6, d7, d8, d9, d10⟩ := cells11 q1
  refine bodyPost_ret (by simp [results, Tryd.results71, go_sem, d0, d1, d2, d3, d4, d5, d6, d7, d8, d9, d10]; rfl) rfl ?_
  obtain ⟨-, -, -, uC, hlt, z3, hsz⟩ := HG.out
  exact ⟨Kl.of uC k9 q2 hlo (by omega), by simp [pcP, pcV, ftP], rfl, ⟨q2.up h9.up (by omega), h9.ge, q2.old (by omega) h9.cs⟩⟩

end Go.Proofs.YteipogfolnlblaaDoor
