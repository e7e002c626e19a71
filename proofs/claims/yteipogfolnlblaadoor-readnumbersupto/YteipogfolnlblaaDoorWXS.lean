/-
  What is proved here: package read's dotted.
-/
import Derived.Test.YteipogfolnlblaaDoorWXR
import Derived.Deep.RegionHeld3
namespace Go.Proofs.YteipogfolnlblaaDoor
open Go Go.RowKit
theorem Kl.of {w W3 W W' : World} {rb lo g : Nat} (u : Up w W3) (k : Kr rb W3 W) (q : Kr g W W') (_hlo : lo ≤ w.heap.size) (hg : lo ≤ g) : Kl rb lo w W' :=
  ⟨((Below.mono u (Nat.zero_le _)).trans k.1).trans q.1, fun b hb hw hne => (q.2 b (Nat.lt_of_lt_of_le hw (Nat.le_trans u.size k.1.size)) (by omega)).trans ((k.2 b (Nat.lt_of_lt_of_le hw u.size) hne).trans (u.block b hw))⟩

theorem joined_any (lo h : Nat) (I : List (Tr (h + 1))) (ao : Option Addr) (cap : Nat) (xs : List Value) (tr : Tr (h + 1)) (ck cn : Int) (cb : Bool) (j1 : Option Addr) (j2 j3 : Nat) (cs : ByteArray) (i1 : Option Addr) (i2 i3 : Nat) (r1 : Option Addr) (r2 r3 : Nat) (w : World) (Z : Nat → Prop) (hZf : ∀ b, w.heap.size ≤ b → Z b) (hZo : ∀ b, (Value.slice ao I.length cap).ownBlock = some b → Z b) (hL : w.ownsRow lo 31 7 (.slice ao I.length cap) I.length xs) (hit : ∀ j (hj : j < I.length), DatQ (fun b => lo ≤ b ∧ (Value.slice ao I.length cap).ownBlock ≠ some b ∧ Z b) w (h + 1) I[j] (sv xs j)) (hlo : lo ≤ w.heap.size) (hd : DatQ (fun b => lo ≤ b ∧ (Value.slice ao I.length cap).ownBlock ≠ some b ∧ Z b) w (h + 1) tr [.int .i64 ck, .int .i64 cn, .bool cb, .slice j1 j2 j3, .string cs, .slice i1 i2 i3, .slice r1 r2 r3]) (hb : I.length + itN tr ≤ 1000000000) :
    Calls Tryd.prog 86 #[.agg #[.int .i64 6, .int .i64 0, .bool false, .slice none 0 0, .string ⟨#[]⟩, .slice ao I.length cap, .slice none 0 0], .agg #[.int .i64 ck, .int .i64 cn, .bool cb, .slice j1 j2 j3, .string cs, .slice i1 i2 i3, .slice r1 r2 r3]] w fun e w' =>
      ∃ (a1 : Option Addr) (a2 a3 : Nat) (e1 : Option Addr) (e2 e3 : Nat), e = .returned (.agg #[.int .i64 6, .int .i64 0, .bool false, .slice none 0 0, .string ⟨#[]⟩, .slice a1 a2 a3, .slice e1 e2 e3]) ∧ DatQ (fun b => lo ≤ b ∧ Z b) w' (h + 2) (joinT I tr) [.int .i64 6, .int .i64 0, .bool false, .slice none 0 0, .string ⟨#[]⟩, .slice a1 a2 a3, .slice e1 e2 e3] ∧ Below 0 w w' ∧ ∀ g, g < w.heap.size → (Value.slice ao I.length cap).ownBlock ≠ some g → w'.heap[g]? = w.heap[g]? := by
  by_cases hk : ck = 6
  · subst hk
    exact joined_list lo h I ao cap xs tr cn cb j1 j2 j3 cs i1 i2 i3 r1 r2 r3 w Z hZf hZo hL hit hlo hd hb
  · exact joined_one lo h I ao cap xs tr ck cn cb j1 j2 j3 cs i1 i2 i3 r1 r2 r3 w Z hZf hZo hL hit hlo hd hb hk

set_option maxHeartbeats 4000000 in
set_option maxRecDepth 100000 in
theorem dot_close (w0 : World) (rb : Nat) (t : ByteArray) (h x y k a d lo : Nat) (I : List (Tr (h + 1))) (ao : Option Addr) (cap : Nat) (q : LP) (w : World) (hs : RS w0 rb t a d w) (_hrl : rb < lo) (hlo : lo ≤ w.heap.size)
    (hn1 : ∀ W, RS w0 rb t a d W → Calls Tryd.prog 14 #[.pointer (some ⟨rb, 0, none⟩)] W fun e w' => e = .returned (pcP q) ∧ RS w0 rb t q.a d w' ∧ Kr rb W w') (h4 : q.k = 4) :
    Calls Tryd.prog 71 #[.pointer (some ⟨rb, 0, none⟩), pc0 x (y : Int) k, .agg #[.int .i64 6, .int .i64 0, .bool false, .slice none 0 0, .string ⟨#[]⟩, .slice ao I.length cap, .slice none 0 0]] w fun e w' => LPost w0 rb t d lo w ((.inl (ftP q.x 15 q.a) : RD (h + 2))) e w' := by
  have g1 := heap_alloc_new w (.cells #[.int .i64 x, .int .i64 (y : Int), .int .i64 (k : Int), .int .i64 0, .int .i64 0, .bool false, .slice none 0 0, .string ⟨#[]⟩, .slice none 0 0, .slice none 0 0, .int .i64 0] 50)
  have u1 := up_alloc w (.cells #[.int .i64 x, .int .i64 (y : Int), .int .i64 (k : Int), .int .i64 0, .int .i64 0, .bool false, .slice none 0 0, .string ⟨#[]⟩, .slice none 0 0, .slice none 0 0, .int .i64 0] 50)
  have z1 : (w.alloc (.cells #[.int .i64 x, .int .i64 (y : Int), .int .i64 (k : Int), .int .i64 0, .int .i64 0, .bool false, .slice none 0 0, .string ⟨#[]⟩, .slice none 0 0, .slice none 0 0, .int .i64 0] 50)).heap.size = w.heap.size + 1 := World.size_alloc _ _
  obtain ⟨W1, hW1⟩ : ∃ W1, W1 = w.alloc (.cells #[.int .i64 x, .int .i64 (y : Int), .int .i64 (k : Int), .int .i64 0, .int .i64 0, .bool false, .slice none 0 0, .string ⟨#[]⟩, .slice none 0 0, .slice none 0 0, .int .i64 0] 50) := ⟨_, rfl⟩
  rw [← hW1] at g1 u1 z1
  have g2 : (W1.alloc (.cells #[.int .i64 6, .int .i64 0, .bool false, .slice none 0 0, .string ⟨#[]⟩, .slice ao I.length cap, .slice none 0 0] 31)).heap[w.heap.size + 1]? = some (.cells #[.int .i64 6, .int .i64 0, .bool false, .slice none 0 0, .string ⟨#[]⟩, .slice ao I.length cap, .slice none 0 0] 31) := by rw [← z1]; exact heap_alloc_new W1 _
  have u2 := up_alloc W1 (.cells #[.int .i64 6, .int .i64 0, .bool false, .slice none 0 0, .string ⟨#[]⟩, .slice ao I.length cap, .slice none 0 0] 31)
  have z2 : (W1.alloc (.cells #[.int .i64 6, .int .i64 0, .bool false, .slice none 0 0, .string ⟨#[]⟩, .slice ao I.length cap, .slice none 0 0] 31)).heap.size = w.heap.size + 2 := by rw [World.size_alloc, z1]
  obtain ⟨W2, hW2⟩ : ∃ W2, W2 = W1.alloc (.cells #[.int .i64 6, .int .i64 0, .bool false, .slice none 0 0, .string ⟨#[]⟩, .slice ao I.length cap, .slice none 0 0] 31) := ⟨_, rfl⟩
  rw [← hW2] at g2 u2 z2
  have g3 : (W2.alloc zer11).heap[w.heap.size + 2]? = some zer11 := by rw [← z2]; exact heap_alloc_new W2 _
  have u3 := up_alloc W2 zer11
  have z3 : (W2.alloc zer11).heap.size = w.heap.size + 3 := by rw [World.size_alloc, z2]
  have b1 := (u2.tr u3).old g1
  have b2 := u3.old g2
  have uC := u1.tr (u2.tr u3)
  have hlt : rb < w.heap.size := hs.lt
  have hA := hs.more5 uC
  have KN := hn1 _ hA
  have HN := hide KN
  have HG := hide (And.intro b1 (And.intro b2 (And.intro g3 (And.intro uC (And.intro hlt (And.intro z3 hs.up.size))))))
  rw [hW2, hW1] at HN HG
  unfold zer11 at HN HG
  unfold pcP pcV at HN
  clear g1 u1 z1 g2 u2 z2 g3 u3 z3 b1 b2 uC hlt hA KN hn1 hs
  clear hW2 W2
  clear hW1 W1
  obtain ⟨qx, qy, qk, qdk, qn, qs, qer, qa⟩ := q
  have h4 : qk = 4 := h4
  subst h4
  have HF := hide (fun (W : World) => fault_any qx 15 W)
  unfold pcV at HF
  unfold pc0 pcV
  go_enter Tryd.func71, Tryd.ntmps71
  go_wp2_with (first
    | (go_at_call 14; refine HN.out.mono ?_; rintro e w4 ⟨rfl, h4, k4⟩; have u5 := up_alloc w4 (.cells #[.int .i64 (qx : Int), .int .i64 (qy : Int), .int .i64 4, .int .i64 (qdk : Int), .int .i64 (qn : Int), .bool false, .slice none 0 0, .string qs, .slice none 0 0, .slice none 0 0, .int .i64 (qer : Int)] 50); have H5 := hide (And.intro (h4.more5 u5) (k4.tr (Kr.of_up u5))); clear h4 k4 u5)
    | (go_at_call 22; refine (HF.out _).mono ?_; rintro e w9 ⟨rfl, u9⟩; have k9 := H5.out.2.tr (Kr.of_up u9); have g9 := k9.old (by have := HG.out.2.2.2.2.1; omega) HG.out.2.2.1; obtain ⟨f0, f1, f2, f3, f4, f5, f6, f7, f8, f9, f10⟩ := frozen11 g9; obtain ⟨d0, d1, d2, d3, d4, d5, d6, d7, d8, d9, d10⟩ := cells11 g9; have H9 := hide (And.intro g9 (And.intro k9 (H5.out.1.more5 u9))); clear u9 k9 g9))
  obtain ⟨g9, k9, h9⟩ := H9.out
  obtain ⟨q1, q2⟩ := sto11 g9 (.int .i64 (qx : Int)) (.int .i64 (qx : Int)) (.int .i64 11) (.int .i64 0) (.int .i64 0) (.bool false) (.slice none 0 0) (.string ⟨#[]⟩) (.slice none 0 0) (.slice none 0 0) (.int .i64 15)
  clear f0 f1 f2 f3 f4 f5 f6 f7 f8 f9 f10 d0 d1 d2 d3 d4 d5 d6 d7 d8 d9 d10
  generalize (((((((((((w9.setCell ⟨(w.heap.size + 2), 0, none⟩ (.int .i64 (qx : Int))).setCell ⟨(w.heap.size + 2), 1, none⟩ (.int .i64 (qx : Int))).setCell ⟨(w.heap.size + 2), 2, none⟩ (.int .i64 11)).setCell ⟨(w.heap.size + 2), 3, none⟩ (.int .i64 0)).setCell ⟨(w.heap.size + 2), 4, none⟩ (.int .i64 0)).setCell ⟨(w.heap.size + 2), 5, none⟩ (.bool false)).setCell ⟨(w.heap.size + 2), 6, none⟩ (.slice none 0 0)).setCell ⟨(w.heap.size + 2), 7, none⟩ (.string ⟨#[]⟩)).setCell ⟨(w.heap.size + 2), 8, none⟩ (.slice none 0 0)).setCell ⟨(w.heap.size + 2), 9, none⟩ (.slice none 0 0)).setCell ⟨(w.heap.size + 2), 10, none⟩ (.int .i64 15)) = W12 at *
  obtain ⟨d0, d1, d2, d3, d4, d5, d6, d7, d8, d9, d10⟩ := cells11 q1
  refine bodyPost_ret (by simp [results, Tryd.results71, go_sem, d0, d1, d2, d3, d4, d5, d6, d7, d8, d9, d10]; rfl) rfl ?_
  obtain ⟨-, -, -, uC, hlt, z3, hsz⟩ := HG.out
  exact ⟨Kl.of uC k9 q2 hlo (by omega), by simp [pcP, pcV, ftP], rfl, ⟨q2.up h9.up (by omega), h9.ge, q2.old (by omega) h9.cs⟩⟩

set_option maxHeartbeats 4000000 in
set_option maxRecDepth 100000 in
theorem dot_bad (w0 : World) (rb : Nat) (t : ByteArray) (h x y k a d lo : Nat) (I : List (Tr (h + 1))) (ao : Option Addr) (cap : Nat) (q : LP) (w : World) (hs : RS w0 rb t a d w) (_hrl : rb < lo) (hlo : lo ≤ w.heap.size)
    (hn1 : ∀ W, RS w0 rb t a d W → Calls Tryd.prog 14 #[.pointer (some ⟨rb, 0, none⟩)] W fun e w' => e = .returned (pcP q) ∧ RS w0 rb t q.a d w' ∧ Kr rb W w') (h4 : q.k ≠ 4) (tx ty tdk tn ter ta : Nat) (ts : ByteArray)
    (hd1 : ∀ W, RS w0 rb t q.a d W → Calls Tryd.prog 13 #[.pointer (some ⟨rb, 0, none⟩), pcP q] W fun e w' => DPost w0 rb t d W ((.inl ⟨tx, ty, 11, tdk, tn, ts, ter, ta⟩ : RD (h + 1))) e w') :
    Calls Tryd.prog 71 #[.pointer (some ⟨rb, 0, none⟩), pc0 x (y : Int) k, .agg #[.int .i64 6, .int .i64 0, .bool false, .slice none 0 0, .string ⟨#[]⟩, .slice ao I.length cap, .slice none 0 0]] w fun e w' => LPost w0 rb t d lo w ((.inl ⟨tx, ty, 11, tdk, tn, ts, ter, ta⟩ : RD (h + 2))) e w' := by
  have g1 := heap_alloc_new w (.cells #[.int .i64 x, .int .i64 (y : Int), .int .i64 (k : Int), .int .i64 0, .int .i64 0, .bool false, .slice none 0 0, .string ⟨#[]⟩, .slice none 0 0, .slice none 0 0, .int .i64 0] 50)
  have u1 := up_alloc w (.cells #[.int .i64 x, .int .i64 (y : Int), .int .i64 (k : Int), .int .i64 0, .int .i64 0, .bool false, .slice none 0 0, .string ⟨#[]⟩, .slice none 0 0, .slice none 0 0, .int .i64 0] 50)
  have z1 : (w.alloc (.cells #[.int .i64 x, .int .i64 (y : Int), .int .i64 (k : Int), .int .i64 0, .int .i64 0, .bool false, .slice none 0 0, .string ⟨#[]⟩, .slice none 0 0, .slice none 0 0, .int .i64 0] 50)).heap.size = w.heap.size + 1 := World.size_alloc _ _
  obtain ⟨W1, hW1⟩ : ∃ W1, W1 = w.alloc (.cells #[.int .i64 x, .int .i64 (y : Int), .int .i64 (k : Int), .int .i64 0, .int .i64 0, .bool false, .slice none 0 0, .string ⟨#[]⟩, .slice none 0 0, .slice none 0 0, .int .i64 0] 50) := ⟨_, rfl⟩
  rw [← hW1] at g1 u1 z1
  have g2 : (W1.alloc (.cells #[.int .i64 6, .int .i64 0, .bool false, .slice none 0 0, .string ⟨#[]⟩, .slice ao I.length cap, .slice none 0 0] 31)).heap[w.heap.size + 1]? = some (.cells #[.int .i64 6, .int .i64 0, .bool false, .slice none 0 0, .string ⟨#[]⟩, .slice ao I.length cap, .slice none 0 0] 31) := by rw [← z1]; exact heap_alloc_new W1 _
  have u2 := up_alloc W1 (.cells #[.int .i64 6, .int .i64 0, .bool false, .slice none 0 0, .string ⟨#[]⟩, .slice ao I.length cap, .slice none 0 0] 31)
  have z2 : (W1.alloc (.cells #[.int .i64 6, .int .i64 0, .bool false, .slice none 0 0, .string ⟨#[]⟩, .slice ao I.length cap, .slice none 0 0] 31)).heap.size = w.heap.size + 2 := by rw [World.size_alloc, z1]
  obtain ⟨W2, hW2⟩ : ∃ W2, W2 = W1.alloc (.cells #[.int .i64 6, .int .i64 0, .bool false, .slice none 0 0, .string ⟨#[]⟩, .slice ao I.length cap, .slice none 0 0] 31) := ⟨_, rfl⟩
  rw [← hW2] at g2 u2 z2
  have g3 : (W2.alloc zer11).heap[w.heap.size + 2]? = some zer11 := by rw [← z2]; exact heap_alloc_new W2 _
  have u3 := up_alloc W2 zer11
  have z3 : (W2.alloc zer11).heap.size = w.heap.size + 3 := by rw [World.size_alloc, z2]
  have b1 := (u2.tr u3).old g1
  have b2 := u3.old g2
  have uC := u1.tr (u2.tr u3)
  have hlt : rb < w.heap.size := hs.lt
  have hA := hs.more5 uC
  have KN := hn1 _ hA
  have HN := hide KN
  have HG := hide (And.intro b1 (And.intro b2 (And.intro g3 (And.intro uC (And.intro hlt (And.intro z3 hs.up.size))))))
  rw [hW2, hW1] at HN HG
  unfold zer11 at HN HG
  unfold pcP pcV at HN
  clear g1 u1 z1 g2 u2 z2 g3 u3 z3 b1 b2 uC hlt hA KN hn1 hs
  clear hW2 W2
  clear hW1 W1
  have c4 : ¬ ((q.k : Int) = 4) := by omega
  unfold DPost pcP pcV at hd1
  have HD := hide hd1
  clear hd1 h4
  unfold pc0 pcV
  go_enter Tryd.func71, Tryd.ntmps71
  go_wp2_with (first
    | (go_at_call 14; refine HN.out.mono ?_; rintro e w4 ⟨rfl, h4, k4⟩; have u5 := up_alloc w4 (.cells #[.int .i64 (q.x : Int), .int .i64 (q.y : Int), .int .i64 (q.k : Int), .int .i64 (q.dk : Int), .int .i64 (q.n : Int), .bool false, .slice none 0 0, .string q.s, .slice none 0 0, .slice none 0 0, .int .i64 (q.er : Int)] 50); have H5 := hide (And.intro (h4.more5 u5) (k4.tr (Kr.of_up u5))); clear h4 k4 u5)
    | (go_at_call 13; refine (HD.out _ H5.out.1).mono ?_; rintro e w6 ⟨k6, rfl, -, h6⟩; have u7 := up_alloc w6 (.cells #[.int .i64 (tx : Int), .int .i64 (ty : Int), .int .i64 11, .int .i64 (tdk : Int), .int .i64 (tn : Int), .bool false, .slice none 0 0, .string ts, .slice none 0 0, .slice none 0 0, .int .i64 (ter : Int)] 50); have k9 := (H5.out.2.tr k6).tr (Kr.of_up u7); have g9 := k9.old (by have := HG.out.2.2.2.2.1; omega) HG.out.2.2.1; obtain ⟨f0, f1, f2, f3, f4, f5, f6, f7, f8, f9, f10⟩ := frozen11 g9; obtain ⟨d0, d1, d2, d3, d4, d5, d6, d7, d8, d9, d10⟩ := cells11 g9; have H9 := hide (And.intro g9 (And.intro k9 (h6.more5 u7))); clear h6 k6 u7 k9 g9))
  obtain ⟨g9, k9, h9⟩ := H9.out
  obtain ⟨q1, q2⟩ := sto11 g9 (.int .i64 (tx : Int)) (.int .i64 (ty : Int)) (.int .i64 11) (.int .i64 (tdk : Int)) (.int .i64 (tn : Int)) (.bool false) (.slice none 0 0) (.string ts) (.slice none 0 0) (.slice none 0 0) (.int .i64 (ter : Int))
  clear f0 f1 f2 f3 f4 f5 f6 f7 f8 f9 f10 d0 d1 d2 d3 d4 d5 d6 d7 d8 d9 d10
  generalize w6.alloc (.cells #[.int .i64 (tx : Int), .int .i64 (ty : Int), .int .i64 11, .int .i64 (tdk : Int), .int .i64 (tn : Int), .bool false, .slice none 0 0, .string ts, .slice none 0 0, .slice none 0 0, .int .i64 (ter : Int)] 50) = W9 at *
  generalize (((((((((((W9.setCell ⟨(w.heap.size + 2), 0, none⟩ (.int .i64 (tx : Int))).setCell ⟨(w.heap.size + 2), 1, none⟩ (.int .i64 (ty : Int))).setCell ⟨(w.heap.size + 2), 2, none⟩ (.int .i64 11)).setCell ⟨(w.heap.size + 2), 3, none⟩ (.int .i64 (tdk : Int))).setCell ⟨(w.heap.size + 2), 4, none⟩ (.int .i64 (tn : Int))).setCell ⟨(w.heap.size + 2), 5, none⟩ (.bool false)).setCell ⟨(w.heap.size + 2), 6, none⟩ (.slice none 0 0)).setCell ⟨(w.heap.size + 2), 7, none⟩ (.string ts)).setCell ⟨(w.heap.size + 2), 8, none⟩ (.slice none 0 0)).setCell ⟨(w.heap.size + 2), 9, none⟩ (.slice none 0 0)).setCell ⟨(w.heap.size + 2), 10, none⟩ (.int .i64 (ter : Int))) = W12 at *
  obtain ⟨d0, d1, d2, d3, d4, d5, d6, d7, d8, d9, d10⟩ := cells11 q1
  refine bodyPost_ret (by simp [results, Tryd.results71, go_sem, d0, d1, d2, d3, d4, d5, d6, d7, d8, d9, d10]; rfl) rfl ?_
  obtain ⟨-, -, -, uC, hlt, z3, hsz⟩ := HG.out
  exact ⟨Kl.of uC k9 q2 hlo (by omega), by simp [pcP, pcV], rfl, ⟨q2.up h9.up (by omega), h9.ge, q2.old (by omega) h9.cs⟩⟩

end Go.Proofs.YteipogfolnlblaaDoor
