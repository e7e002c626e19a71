/-
  What is proved here: package read's dotted, at its end.
-/
import Derived.Test.YteipogfolnlblaaDoorWXT
namespace Go.Proofs.YteipogfolnlblaaDoor
open Go Go.RowKit
set_option maxHeartbeats 16000000 in
set_option maxRecDepth 100000 in
theorem dot_ok (w0 : World) (rb : Nat) (t : ByteArray) (h x y k a d lo : Nat) (I : List (Tr (h + 1))) (ao : Option Addr) (cap : Nat) (q : LP) (w : World) (hs : RS w0 rb t a d w) (hrl : rb < lo) (hlo : lo ≤ w.heap.size)
    (hn1 : ∀ W, RS w0 rb t a d W → Calls Tryd.prog 14 #[.pointer (some ⟨rb, 0, none⟩)] W fun e w' => e = .returned (pcP q) ∧ RS w0 rb t q.a d w' ∧ Kr rb W w') (h4 : q.k ≠ 4) (x2 y2 a1 : Nat) (tr : Tr (h + 1)) (p : LP)
    (hd1 : ∀ W, RS w0 rb t q.a d W → Calls Tryd.prog 13 #[.pointer (some ⟨rb, 0, none⟩), pcP q] W fun e w' => DPost w0 rb t d W ((.inr (x2, y2, tr, a1) : RD _)) e w')
    (hn2 : ∀ W, RS w0 rb t a1 d W → Calls Tryd.prog 14 #[.pointer (some ⟨rb, 0, none⟩)] W fun e w' => e = .returned (pcP p) ∧ RS w0 rb t p.a d w' ∧ Kr rb W w') (hp : p.k = 4) (xs : List Value) (hL : LI lo h I (.slice ao I.length cap) xs w) (hb : I.length + itN tr ≤ 1000000000) (h0lo : w0.heap.size ≤ lo) :
    Calls Tryd.prog 71 #[.pointer (some ⟨rb, 0, none⟩), pc0 x (y : Int) k, .agg #[.int .i64 6, .int .i64 0, .bool false, .slice none 0 0, .string ⟨#[]⟩, .slice ao I.length cap, .slice none 0 0]] w fun e w' => LPost w0 rb t d lo w ((.inr (x, p.y, (joinT I tr), p.a) : RD _)) e w' := by
  have g1 := heap_alloc_new w (.cells #[.int .i64 x, .int .i64 (y : Int), .int .i64 (k : Int), .int .i64 0, .int .i64 0, .bool false, .slice none 0 0, .string ⟨#[]⟩, .slice none 0 0, .slice none 0 0, .int .i64 0] 50)
  have u1 := up_alloc w (.cells #[.int .i64 x, .int .i64 (y : Int), .int .i64 (k : Int), .int .i64 0, .int .i64 0, .bool false, .slice none 0 0, .string ⟨#[]⟩, .slice none 0 0, .slice none 0 0, .int .i64 0] 50)
  have z1 : (w.alloc (.cells #[.int .i64 x, .int .i64 (y : Int), .int .i64 (k : Int), .int .i64 0, .int .i64 0, .bool false, .slice none 0 0, .string ⟨#[]⟩, .slice none 0 0, .slice none 0 0, .int .i64 0] 50)).heap.size = w.heap.size + 1 := World.size_alloc _ _
  obtain ⟨W1, hW1⟩ : ∃ W1, W1 = w.alloc (.cells #[.int .i64 x, .int .i64 (y : Int), .int .i64 (k : Int), .int .i64 0, .int .i64 0, .bool false, .slice none 0 0, .string ⟨#[]⟩, .slice none 0 0, .slice none 0 0, .int .i64 0] 50) := ⟨_, rfl⟩
  rw [← hW1] at g1 u1 z1
  have g2 : (W1.alloc (.cells #[.int .i64 6, .int .i64 0, .bool false, .slice none 0 0, .string ⟨#[]⟩, .slice ao I.length cap, .slice none 0 0] 31)).heap[w.heap.size + 1]? = some (.cells #[.int .i64 6, .int .i64 0, .bool false, .slice none 0 0, .string ⟨#[]⟩, .slice ao I.length cap, .slice none 0 0] 31) := by rw [← z1]; exact heap_alloc_new W1 _
  have u2 := up_alloc W1 (.cells #[.int .i64 6, .int .i64 0, .bool false, .slice none 0 0, .string ⟨#[]⟩, .slice ao I.length cap, .slice none 0 0] 31)
  have z2 : (W1.alloc (.cells #[.int .i64 6, .int .i64 0, .bool false, .slice none 0 0, .string ⟨#[]⟩, .slice ao I.length cap, .slice none 0 0] 31)).heap.size = w.heap.size + 2 := by rw [World.size_alloc, z1]
  obtain ⟨W2, hW2⟩ : ∃ W2, W2 = W1.alloc (.cells #[.int .i64 6, .int .i64 0, .bool false, .slice none 0 0, .string ⟨#[]⟩, .slice ao I.length cap, .slice none 0 0] 31) := ⟨_, rfl⟩
  rw [← hW2] at g2 u2 z2
  have g3 : (W2.alloc zer11).heap[w.heap.size + 2]? = some zer11 := by rw [← z2]; exact heap_alloc_new W2 _
  have u3 := up_alloc W2 zer11
  have z3 : (W2.alloc zer11).heap.size = w.heap.size + 3 := by rw [World.size_alloc, z2]
  have b1 := (u2.tr u3).old g1
  have b2 := u3.old g2
  have uC := u1.tr (u2.tr u3)
  have hlt : rb < w.heap.size := hs.lt
  have hA := hs.more5 uC
  have KN := hn1 _ hA
  have HN := hide KN
  have HG := hide (And.intro b1 (And.intro b2 (And.intro g3 (And.intro uC (And.intro hlt (And.intro z3 hs.up.size))))))
  rw [hW2, hW1] at HN HG
  unfold zer11 at HN HG
  unfold pcP pcV at HN
  clear g1 u1 z1 g2 u2 z2 g3 u3 z3 b1 b2 uC hlt hA KN hn1 hs
  clear hW2 W2
  clear hW1 W1
  have c4 : ¬ ((q.k : Int) = 4) := by omega
  unfold DPost pcP pcV at hd1
  have HD := hide hd1
  clear hd1 h4
  obtain ⟨px, py, pk, pdk, pn, ps, per, pa⟩ := p
  have hp : pk = 4 := hp
  subst hp
  unfold pcP pcV at hn2
  have HN2 := hide hn2
  have HL := hide hL
  clear hn2 hL
  unfold pc0 pcV
  go_enter Tryd.func71, Tryd.ntmps71
  go_wp2_with (first
    | (have h9 : Nat := w6.heap.size; clear h9; go_at_call 14; refine (HN2.out _ H7.out.1).mono ?_; rintro e w8 ⟨rfl, h8, k8⟩; have u8 := up_alloc w8 (.cells #[.int .i64 (px : Int), .int .i64 (py : Int), .int .i64 4, .int .i64 (pdk : Int), .int .i64 (pn : Int), .bool false, .slice none 0 0, .string ps, .slice none 0 0, .slice none 0 0, .int .i64 (per : Int)] 50); have H8 := hide (And.intro (h8.more5 u8) (And.intro ((H7.out.2.1.tr k8).tr (Kr.of_up u8)) (And.intro k8 u8))); clear h8 k8 u8)
    | (go_at_call 14; refine HN.out.mono ?_; rintro e w4 ⟨rfl, h4, k4⟩; have u5 := up_alloc w4 (.cells #[.int .i64 (q.x : Int), .int .i64 (q.y : Int), .int .i64 (q.k : Int), .int .i64 (q.dk : Int), .int .i64 (q.n : Int), .bool false, .slice none 0 0, .string q.s, .slice none 0 0, .slice none 0 0, .int .i64 (q.er : Int)] 50); have H5 := hide (And.intro (h4.more5 u5) (And.intro (k4.tr (Kr.of_up u5)) k4.1.size)); clear h4 k4 u5)
    | (go_at_call 13; refine (HD.out _ H5.out.1).mono ?_; rintro e w6 ⟨k6, ck, cn, cb, j1, j2, j3, cs, i1, i2, i3, r1, r2, r3, rfl, hq6, h6⟩; have u7 := up_alloc w6 (.cells #[.int .i64 (x2 : Int), .int .i64 (y2 : Int), .int .i64 10, .int .i64 ck, .int .i64 cn, .bool cb, .slice j1 j2 j3, .string cs, .slice i1 i2 i3, .slice r1 r2 r3, .int .i64 0] 50); have H7 := hide (And.intro (h6.more5 u7) (And.intro ((H5.out.2.1.tr k6).tr (Kr.of_up u7)) (And.intro hq6 (And.intro u7 (And.intro (heap_alloc_new w6 (.cells #[.int .i64 (x2 : Int), .int .i64 (y2 : Int), .int .i64 10, .int .i64 ck, .int .i64 cn, .bool cb, .slice j1 j2 j3, .string cs, .slice i1 i2 i3, .slice r1 r2 r3, .int .i64 0] 50)) k6.1.size))))); clear h6 k6 u7 hq6))
  obtain ⟨h7, k7, hq6, u7, gd, sk6⟩ := H7.out
  have s4 := H5.out.2.2
  have e4 : (w4.alloc (.cells #[.int .i64 (q.x : Int), .int .i64 (q.y : Int), .int .i64 (q.k : Int), .int .i64 (q.dk : Int), .int .i64 (q.n : Int), .bool false, .slice none 0 0, .string q.s, .slice none 0 0, .slice none 0 0, .int .i64 (q.er : Int)] 50)).heap.size = w4.heap.size + 1 := World.size_alloc _ _
  obtain ⟨h8, k8t, k8, u8⟩ := H8.out
  obtain ⟨b1, b2, g3, uC, hlt, z3, hsz⟩ := HG.out
  have ge : (w8.alloc (.cells #[.int .i64 (px : Int), .int .i64 (py : Int), .int .i64 4, .int .i64 (pdk : Int), .int .i64 (pn : Int), .bool false, .slice none 0 0, .string ps, .slice none 0 0, .slice none 0 0, .int .i64 (per : Int)] 50)).heap[w8.heap.size]? = some (.cells #[.int .i64 (px : Int), .int .i64 (py : Int), .int .i64 4, .int .i64 (pdk : Int), .int .i64 (pn : Int), .bool false, .slice none 0 0, .string ps, .slice none 0 0, .slice none 0 0, .int .i64 (per : Int)] 50) := heap_alloc_new w8 (.cells #[.int .i64 (px : Int), .int .i64 (py : Int), .int .i64 4, .int .i64 (pdk : Int), .int .i64 (pn : Int), .bool false, .slice none 0 0, .string ps, .slice none 0 0, .slice none 0 0, .int .i64 (per : Int)] 50)
  rw [e4] at sk6
  rw [z3] at s4
  have s7 := k7.1.size
  have s78 := k8.1.size
  have s6 := u7.size
  have sW := k8t.1.size
  have vlt : ∀ b, (Value.slice ao I.length cap).ownBlock = some b → lo ≤ b ∧ b < w.heap.size := fun b hb => HL.out.own.lt b hb
  have c1 := k8t.old (by omega) b1
  have c2 := k8t.old (by omega) b2
  have c3 := k8t.old (by omega) g3
  have lt6 : w6.heap.size < (w6.alloc (.cells #[.int .i64 (x2 : Int), .int .i64 (y2 : Int), .int .i64 10, .int .i64 ck, .int .i64 cn, .bool cb, .slice j1 j2 j3, .string cs, .slice i1 i2 i3, .slice r1 r2 r3, .int .i64 0] 50)).heap.size := (Array.getElem?_eq_some_iff.1 gd).1
  have e6 : (w6.alloc (.cells #[.int .i64 (x2 : Int), .int .i64 (y2 : Int), .int .i64 10, .int .i64 ck, .int .i64 cn, .bool cb, .slice j1 j2 j3, .string cs, .slice i1 i2 i3, .slice r1 r2 r3, .int .i64 0] 50)).heap.size = w6.heap.size + 1 := World.size_alloc _ _
  have cd := u8.old (k8.old (by omega) gd)
  have e8 : (w8.alloc (.cells #[.int .i64 (px : Int), .int .i64 (py : Int), .int .i64 4, .int .i64 (pdk : Int), .int .i64 (pn : Int), .bool false, .slice none 0 0, .string ps, .slice none 0 0, .slice none 0 0, .int .i64 (per : Int)] 50)).heap.size = w8.heap.size + 1 := World.size_alloc _ _
  obtain ⟨W8, hW8⟩ : ∃ W8, W8 = w8.alloc (.cells #[.int .i64 (px : Int), .int .i64 (py : Int), .int .i64 4, .int .i64 (pdk : Int), .int .i64 (pn : Int), .bool false, .slice none 0 0, .string ps, .slice none 0 0, .slice none 0 0, .int .i64 (per : Int)] 50) := ⟨_, rfl⟩
  rw [← hW8] at h8 k8t u8 ge c1 c2 c3 cd e8 sW
  have KF : ∀ (W : World), (∀ g, g < W8.heap.size → (Value.slice ao I.length cap).ownBlock ≠ some g → g ≠ w.heap.size + 2 → W.heap[g]? = W8.heap[g]?) → W.cell? ⟨w.heap.size, 0, none⟩ = some (.int .i64 (x : Int)) ∧ W.cell? ⟨w8.heap.size, 1, none⟩ = some (.int .i64 (py : Int)) ∧ W.cell? ⟨w.heap.size + 1, 0, none⟩ = some (.int .i64 6) ∧ W.cell? ⟨w.heap.size + 1, 1, none⟩ = some (.int .i64 0) ∧ W.cell? ⟨w.heap.size + 1, 2, none⟩ = some (.bool false) ∧ W.cell? ⟨w.heap.size + 1, 3, none⟩ = some (.slice none 0 0) ∧ W.cell? ⟨w.heap.size + 1, 4, none⟩ = some (.string ⟨#[]⟩) ∧ W.cell? ⟨w.heap.size + 1, 5, none⟩ = some (.slice ao I.length cap) ∧ W.cell? ⟨w.heap.size + 1, 6, none⟩ = some (.slice none 0 0) ∧ W.cell? ⟨w6.heap.size, 3, none⟩ = some (.int .i64 ck) ∧ W.cell? ⟨w6.heap.size, 4, none⟩ = some (.int .i64 cn) ∧ W.cell? ⟨w6.heap.size, 5, none⟩ = some (.bool cb) ∧ W.cell? ⟨w6.heap.size, 6, none⟩ = some (.slice j1 j2 j3) ∧ W.cell? ⟨w6.heap.size, 7, none⟩ = some (.string cs) ∧ W.cell? ⟨w6.heap.size, 8, none⟩ = some (.slice i1 i2 i3) ∧ W.cell? ⟨w6.heap.size, 9, none⟩ = some (.slice r1 r2 r3) := fun W hW => by
    have no : ∀ g, w.heap.size ≤ g → (Value.slice ao I.length cap).ownBlock ≠ some g := fun g hg e => by have := (vlt g e).2; omega
    have lt1 := (Array.getElem?_eq_some_iff.1 c2).1
    obtain ⟨d0, -⟩ := cells11 ((hW w.heap.size (by omega) (no _ (Nat.le_refl _)) (by omega)).trans c1)
    obtain ⟨-, f1, -⟩ := cells11 ((hW w8.heap.size (by omega) (no _ (by omega)) (by omega)).trans ge)
    obtain ⟨l0, l1, l2, l3, l4, l5, l6⟩ := cells7 ((hW (w.heap.size + 1) lt1 (no _ (by omega)) (by omega)).trans c2)
    obtain ⟨-, -, -, x3, x4, x5, x6, x7, x8, x9, -⟩ := cells11 ((hW w6.heap.size (by omega) (no _ (by omega)) (by omega)).trans cd)
    exact ⟨d0, f1, l0, l1, l2, l3, l4, l5, l6, x3, x4, x5, x6, x7, x8, x9⟩
  have hit : ∀ j (hj : j < I.length), DatQ (fun b => lo ≤ b ∧ (Value.slice ao I.length cap).ownBlock ≠ some b ∧ b ≠ w.heap.size + 2) W8.drew (h + 1) I[j] (sv xs j) := fun j hj => DatQ.keep (w := w) (w' := W8.drew) (Q := fun b => lo ≤ b ∧ (Value.slice ao I.length cap).ownBlock ≠ some b) (Q' := fun b => lo ≤ b ∧ (Value.slice ao I.length cap).ownBlock ≠ some b ∧ b ≠ w.heap.size + 2) (fun g hg hq => (k8t.2 g (Nat.lt_of_lt_of_le hg uC.size) (by omega)).trans (uC.block g hg)) (fun g hg hq => ⟨hq.1, hq.2, by omega⟩) (HL.out.it j hj)
  have hown8 : W8.drew.ownsRow lo 31 7 (.slice ao I.length cap) I.length xs := (HL.out.keep (W' := W8.drew) (fun g hg hl => (k8t.2 g (Nat.lt_of_lt_of_le hg uC.size) (by omega)).trans (uC.block g hg))).own
  have hdd : DatQ (fun b => lo ≤ b ∧ (Value.slice ao I.length cap).ownBlock ≠ some b ∧ b ≠ w.heap.size + 2) W8.drew (h + 1) tr [.int .i64 ck, .int .i64 cn, .bool cb, .slice j1 j2 j3, .string cs, .slice i1 i2 i3, .slice r1 r2 r3] := DatQ.keep (w := w6) (w' := W8.drew) (Q' := fun b => lo ≤ b ∧ (Value.slice ao I.length cap).ownBlock ≠ some b ∧ b ≠ w.heap.size + 2) (fun g hg hq => (u8.block g (by omega)).trans ((k8.2 g (by omega) (by omega)).trans (u7.block g hg))) (fun g hg hq => ⟨by omega, fun e => by have := (vlt g e).2; omega, by omega⟩) hq6
  have KJ := joined_any lo h I ao cap xs tr ck cn cb j1 j2 j3 cs i1 i2 i3 r1 r2 r3 W8.drew (fun b => b ≠ w.heap.size + 2) (fun b hb => by have : W8.heap.size ≤ b := hb; omega) (fun b hb => by have := (vlt b hb).2; omega) hown8 hit (by show lo ≤ W8.heap.size; omega) hdd hb
  have HJ := hide KJ
  have HM := hide (fun (W : World) (v1 : Option Addr) (v2 v3 : Nat) (t1 : Option Addr) (t2 t3 : Nat) => made_any x py 6 0 false ⟨#[]⟩ none v1 t1 0 0 v2 v3 t2 t3 W)
  unfold pcV at HM
  have HKF := hide KF
  have HV := hide vlt
  have HZ := hide (And.intro c3 (And.intro h8 (And.intro k8t (And.intro uC (And.intro z3 (And.intro sW (And.intro hsz hlt)))))))
  obtain ⟨y0, y1, y2, y3, y4, y5, y6, y7, y8, y9, y10, y11, y12, y13, y14, y15⟩ := KF W8.drew (fun _ _ _ _ => rfl)
  have nn : ∀ g, w.heap.size ≤ g → (Value.slice ao I.length cap).ownBlock ≠ some g := fun g hg e => by have := (vlt g e).2; omega
  have HNN := hide nn
  clear KJ KF hit hown8 hdd vlt c1 c2 c3 cd ge h7 k7 hq6 u7 gd h8 k8t k8 u8 b1 b2 g3 uC z3 s7 s78 s6 nn sk6 s4 e4 e6 lt6 hlt hsz
  rw [← hW8]
  clear hW8
  go_region_held3 (fun w' => w'.cell? ⟨w.heap.size, 0, none⟩ = some (.int .i64 (x : Int)) ∧ w'.cell? ⟨w8.heap.size, 1, none⟩ = some (.int .i64 (py : Int)) ∧ w'.cell? ⟨w.heap.size + 1, 0, none⟩ = some (.int .i64 6) ∧ w'.cell? ⟨w.heap.size + 1, 1, none⟩ = some (.int .i64 0) ∧ w'.cell? ⟨w.heap.size + 1, 2, none⟩ = some (.bool false) ∧ w'.cell? ⟨w.heap.size + 1, 3, none⟩ = some (.slice none 0 0) ∧ w'.cell? ⟨w.heap.size + 1, 4, none⟩ = some (.string ⟨#[]⟩) ∧ w'.cell? ⟨w.heap.size + 1, 5, none⟩ = some (.slice ao I.length cap) ∧ w'.cell? ⟨w.heap.size + 1, 6, none⟩ = some (.slice none 0 0) ∧ w'.cell? ⟨w6.heap.size, 3, none⟩ = some (.int .i64 ck) ∧ w'.cell? ⟨w6.heap.size, 4, none⟩ = some (.int .i64 cn) ∧ w'.cell? ⟨w6.heap.size, 5, none⟩ = some (.bool cb) ∧ w'.cell? ⟨w6.heap.size, 6, none⟩ = some (.slice j1 j2 j3) ∧ w'.cell? ⟨w6.heap.size, 7, none⟩ = some (.string cs) ∧ w'.cell? ⟨w6.heap.size, 8, none⟩ = some (.slice i1 i2 i3) ∧ w'.cell? ⟨w6.heap.size, 9, none⟩ = some (.slice r1 r2 r3)) (first | (refine ⟨?_, ?_, ?_, ?_, ?_, ?_, ?_, ?_, ?_, ?_, ?_, ?_, ?_, ?_, ?_, ?_⟩ <;> with_reducible assumption) | exact HKF.out _ (fun g hg h1 h2 => ((sto11 H10.out.1 _ _ _ _ _ _ _ _ _ _ _).2.2 g (Nat.lt_of_lt_of_le hg H10.out.2.2.2) h2).trans (H10.out.2.1 g hg h1 h2)))
    (first
      | (go_at_call 86; refine HJ.out.mono ?_; rintro e w9 ⟨a1', a2', a3', e1', e2', e3', rfl, dq, bl, ho⟩; obtain ⟨y0, y1, y2, y3, y4, y5, y6, y7, y8, y9, y10, y11, y12, y13, y14, y15⟩ := HKF.out w9 (fun g hg h1 h2 => ho g hg h1); have H9 := hide (And.intro dq (And.intro bl ho)); clear dq bl ho)
      | (go_at_call 35; refine (HM.out _ _ _ _ _ _ _).mono ?_; rintro e w10 ⟨rfl, u10⟩; have s9 := H9.out.2.1.size; have hc : ∀ g, g < W8.heap.size → (Value.slice ao I.length cap).ownBlock ≠ some g → g ≠ w.heap.size + 2 → w10.heap[g]? = W8.heap[g]? := (fun g hg h1 h2 => (u10.block g (Nat.lt_of_lt_of_le hg s9)).trans (H9.out.2.2 g hg h1)); obtain ⟨y0, y1, y2, y3, y4, y5, y6, y7, y8, y9, y10, y11, y12, y13, y14, y15⟩ := HKF.out w10 hc; have g10 := (u10.block (w.heap.size + 2) (Nat.lt_of_lt_of_le (Array.getElem?_eq_some_iff.1 HZ.out.1).1 s9)).trans ((H9.out.2.2 (w.heap.size + 2) (Array.getElem?_eq_some_iff.1 HZ.out.1).1 (HNN.out _ (by omega))).trans HZ.out.1); obtain ⟨f0, f1, f2, f3, f4, f5, f6, f7, f8, f9, f10⟩ := frozen11 g10; obtain ⟨d0, d1, d2, d3, d4, d5, d6, d7, d8, d9, d10⟩ := cells11 g10; have H10 := hide (And.intro g10 (And.intro hc (And.intro u10 (Nat.le_trans s9 u10.size)))); clear u10 hc g10 s9))
  go_wp2_with fail
  obtain ⟨g10, hc, u10, s10⟩ := H10.out
  obtain ⟨dq, bl, ho⟩ := H9.out
  obtain ⟨c3, h8, k8t, uC, z3, sW, hsz, hlt⟩ := HZ.out
  obtain ⟨q1, q2⟩ := sto11 g10 (.int .i64 (x : Int)) (.int .i64 (py : Int)) (.int .i64 10) (.int .i64 6) (.int .i64 0) (.bool false) (.slice none 0 0) (.string ⟨#[]⟩) (.slice a1' a2' a3') (.slice e1' e2' e3') (.int .i64 0)
  clear f0 f1 f2 f3 f4 f5 f6 f7 f8 f9 f10 d0 d1 d2 d3 d4 d5 d6 d7 d8 d9 d10 y0 y1 y2 y3 y4 y5 y6 y7 y8 y9 y10 y11 y12 y13 y14 y15
  generalize (((((((((((w10.setCell ⟨(w.heap.size + 2), 0, none⟩ (.int .i64 (x : Int))).setCell ⟨(w.heap.size + 2), 1, none⟩ (.int .i64 (py : Int))).setCell ⟨(w.heap.size + 2), 2, none⟩ (.int .i64 10)).setCell ⟨(w.heap.size + 2), 3, none⟩ (.int .i64 6)).setCell ⟨(w.heap.size + 2), 4, none⟩ (.int .i64 0)).setCell ⟨(w.heap.size + 2), 5, none⟩ (.bool false)).setCell ⟨(w.heap.size + 2), 6, none⟩ (.slice none 0 0)).setCell ⟨(w.heap.size + 2), 7, none⟩ (.string ⟨#[]⟩)).setCell ⟨(w.heap.size + 2), 8, none⟩ (.slice a1' a2' a3')).setCell ⟨(w.heap.size + 2), 9, none⟩ (.slice e1' e2' e3')).setCell ⟨(w.heap.size + 2), 10, none⟩ (.int .i64 0)) = W12 at *
  obtain ⟨d0, d1, d2, d3, d4, d5, d6, d7, d8, d9, d10⟩ := cells11 q1
  refine bodyPost_ret (by simp [results, Tryd.results71, go_sem, d0, d1, d2, d3, d4, d5, d6, d7, d8, d9, d10]; rfl) rfl ?_
  have low : ∀ g, g < W8.heap.size → (Value.slice ao I.length cap).ownBlock ≠ some g → g ≠ w.heap.size + 2 → W12.heap[g]? = W8.heap[g]? := fun g hg h1 h2 => (q2.2 g (Nat.lt_of_lt_of_le hg s10) h2).trans (hc g hg h1 h2)
  have nlo : ∀ g, g < lo → (Value.slice ao I.length cap).ownBlock ≠ some g := fun g hg e => by have := (HV.out g e).1; omega
  have B8 : Below 0 W8 W12 := (((Below.mono (up_drew W8) (Nat.zero_le _)).trans bl).trans (Below.mono u10 (Nat.zero_le _))).trans q2.1
  refine ⟨⟨((Below.mono uC (Nat.zero_le _)).trans k8t.1).trans B8, fun g hg hw hne => (low g (Nat.lt_of_lt_of_le hw (Nat.le_trans uC.size k8t.1.size)) (nlo g hg) (by omega)).trans ((k8t.2 g (Nat.lt_of_lt_of_le hw uC.size) hne).trans (uC.block g hw))⟩, 6, 0, false, none, 0, 0, ⟨#[]⟩, a1', a2', a3', e1', e2', e3', by simp [pcV], DatQ.keep (fun g hg hq => (q2.2 g (Nat.lt_of_lt_of_le hg u10.size) hq.2).trans (u10.block g hg)) (fun g _ hq => hq.1) dq, ?_⟩
  have hu := h8.up
  exact ⟨⟨B8.os.trans hu.os, B8.tape.trans hu.tape, B8.output.trans hu.output, Nat.le_trans hu.size B8.size, fun g hg => (low g (Nat.lt_of_lt_of_le hg hu.size) (nlo g (by omega)) (by omega)).trans (hu.block g hg)⟩, h8.ge, (low rb h8.lt (nlo rb hrl) (by omega)).trans h8.cs⟩

end Go.Proofs.YteipogfolnlblaaDoor
