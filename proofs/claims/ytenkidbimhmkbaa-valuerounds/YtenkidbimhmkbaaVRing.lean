/-
  What is proved here: package value's Equal of things that go round, and of one such and a list.
-/
import Derived.Test.YtenkidbimhmkbaaVEqP
import Derived.Test.YtenkidbimhmkbaaVTakR
namespace Go.Proofs.Ytenkidbimhmkbaa
open Go Go.RowKit

/-- From the word u 0 on pairs whose cars are 5 follow each other, K of them. -/
structure Goes (f : Nat → Nat) (st : Nat → Bool) (u : Nat → Nat) (K : Nat) : Prop where
  pair : ∀ k, k < K → shapeB (headOf f st (u k)) 1 2 0 = true
  car : ∀ k, k < K → fieldAt f st (u k) 0 = 5
  cdr : ∀ k, k < K → fieldAt f st (u k) 1 = u (k + 1)
  lt : ∀ k, u k < 18446744073709551616

theorem Goes.follows {f : Nat → Nat} {st : Nat → Bool} {u : Nat → Nat} {K : Nat} (h : Goes f st u K) : Follows f st u (fun _ => 5) (fun _ => intW 5) K :=
  ⟨h.pair, h.car, h.cdr, h.lt, fun _ => by decide, fun _ => by decide, fun _ => rfl⟩

theorem shapeB_tag {H : Nat} (h : shapeB H 1 2 0 = true) : hTag H = 2 := by
  unfold shapeB at h
  simp at h
  omega

/-- Two that go round are compared until nothing may come any more. -/
theorem equal_rings (w : World) (cb sb hb : Nat) (X : Nat → Prop) (sz : Nat) (tm : Int) (n : Nat) (f : Nat → Nat) (st : Nat → Bool) (u v : Nat → Nat) (h : HeapAt w hb X sz tm n f st) (hS : w.cell? ⟨sb, 0, none⟩ = some (.pointer (some ⟨hb, 0, none⟩))) (hcX : ¬ X cb) (hcs : cb ≠ sb) (K : Nat) (hu : Goes f st u K) (hv : Goes f st v K) (hne : ∀ i j, u i ≠ v j) :
    ∀ t : Nat, t ≤ 20000 → ∀ i j, i + t ≤ K → j + t ≤ K → EqSays w cb sb (((20000 - t : Nat) : Int)) (u i) (v j) false 20001
  | 0, _, i, j, _, _ => equal_over w cb sb _ (u i) (v j) (by omega) (by omega)
  | 1, _, i, j, hi, hj => by
    refine equal_pairs w cb sb hb X sz tm n f st (u i) (v j) _ 20001 false h hS hcX hcs (hu.lt i) (hv.lt j) (hne i j) (hu.pair i (by omega)) (hv.pair j (by omega)) (by omega) (by omega) ?_
    refine sameParts_f w cb sb hb X sz tm n f st (u i) (v j) 5 5 _ 20001 h hS hcX hcs (hu.lt i) (hv.lt j) (shapeB_tag (hu.pair i (by omega))) (shapeB_tag (hv.pair j (by omega))) (hu.car i (by omega)) (hv.car j (by omega)) ?_
    exact equal_over w cb sb _ 5 5 (by omega) (by omega)
  | t + 2, ht, i, j, hi, hj => by
    refine equal_pairs w cb sb hb X sz tm n f st (u i) (v j) _ 20001 false h hS hcX hcs (hu.lt i) (hv.lt j) (hne i j) (hu.pair i (by omega)) (hv.pair j (by omega)) (by omega) (by omega) ?_
    refine sameParts_t w cb sb hb X sz tm n f st (u i) (v j) 5 5 (u (i + 1)) (v (j + 1)) _ _ 20001 h hS hcX hcs (hu.lt i) (hv.lt j) (shapeB_tag (hu.pair i (by omega))) (shapeB_tag (hv.pair j (by omega))) (hu.car i (by omega)) (hv.car j (by omega)) (hu.cdr i (by omega)) (hv.cdr j (by omega)) false (equal_same w cb sb _ 5 (by omega) (by omega)) ?_
    have := equal_rings w cb sb hb X sz tm n f st u v h hS hcX hcs K hu hv hne t (by omega) (i + 1) (j + 1) (by omega) (by omega)
    rw [show ((20000 - t : Nat) : Int) = ((20000 - (t + 2) : Nat) : Int) + 1 + 1 by omega] at this
    exact this

set_option maxRecDepth 20000 in
set_option maxHeartbeats 4000000 in
/-- A pair is not equal to what is none, and no text. -/
theorem equal_diff (w : World) (cb sb hb : Nat) (X : Nat → Prop) (sz : Nat) (tm : Int) (n : Nat) (f : Nat → Nat) (st : Nat → Bool) (x y : Nat) (s : Int) (h : HeapAt w hb X sz tm n f st) (hS : w.cell? ⟨sb, 0, none⟩ = some (.pointer (some ⟨hb, 0, none⟩))) (hcX : ¬ X cb) (hcs : cb ≠ sb) (hx : x < 18446744073709551616) (hy : y < 18446744073709551616) (hne : x ≠ y) (px : shapeB (headOf f st x) 1 2 0 = true) (py : shapeB (headOf f st y) 1 2 0 = false) (h0 : 0 ≤ s) (h1 : s < 20000) : EqSays w cb sb s x y false (s + 1) := by
  intro w0 F0 hc
  have hsl : sb < w.heap.size := World.block_lt_of_cell? _ _ hS
  have kx : hKind (headOf f st x) = 1 := by unfold shapeB at px; simp at px; omega
  have c0 := cell_of_row w0 cb 0 _ _ _ hc
  have c1 := cell_of_row w0 cb 1 _ _ _ hc
  have fz := frozen_of_row w0 cb 1 _ _ hc
  have F1 : Fr (fun k => k = cb) w0 (w0.setCell ⟨cb, 1, none⟩ (.int .i64 (s + 1))) := Fr.setCell (S := fun k => k = cb) (Fr.refl _ _) (fun _ => rfl) _ _
  have b1 : CmpAt (w0.setCell ⟨cb, 1, none⟩ (.int .i64 (s + 1))) cb sb (s + 1) := heap_setCell_same w0 cb 1 _ _ _ hc
  have e0 := cell_of_row _ cb 0 _ _ _ b1
  have e1 := cell_of_row _ cb 1 _ _ _ b1
  have i0 := e0
  have i1 := e1
  obtain ⟨w1, hw1⟩ : ∃ w1, w1 = w0.setCell ⟨cb, 1, none⟩ (.int .i64 (s + 1)) := ⟨_, rfl⟩
  rw [← hw1] at F1 b1 e0 e1
  have FW : Fr (fun k => k = cb) w w1 := Fr.trans F0 F1 (fun _ _ e => e)
  have H1 := h.fr FW (fun k hk e => hcX (e ▸ hk))
  have S1 := (FW.cell (o := 0) hsl (fun e => hcs e.symm)).trans hS
  have KE := eqv_no w1 sb hb X sz tm n f st x y H1 S1 hx hne (by omega)
  have KT := fun q => isText_no (w1.drewN q) sb hb X sz tm n f st x (H1.drewN q) S1 hx (by omega)
  have KX := fun q => isPair_any (w1.drewN q) sb hb X sz tm n f st x (H1.drewN q) S1 hx
  rw [px] at KX
  have KY := fun q => isPair_any (w1.drewN q) sb hb X sz tm n f st y (H1.drewN q) S1 hy
  rw [py] at KY
  have KV := fun q => isVec_any (w1.drewN q) sb hb X sz tm n f st x (H1.drewN q) S1 hx
  rw [shapeB_kind (k := 2) (by omega)] at KV
  have hle : ¬ (20000 < s + 1) := by omega
  have HE := hide KE
  have HT := hide KT
  have HX := hide KX
  have HY := hide KY
  have HV := hide KV
  have HF := hide F1
  have HB := hide b1
  have HW := hide hw1
  clear KE KT KX KY KV F1 b1 H1 S1 h hS hc hw1 FW F0
  go_enter Try.func81, Try.ntmps81
  go_wp2_with fail
  rw [← HW.out]
  clear i0 i1 c0 c1
  go_wp2_with (first
    | (go_at_call 25; refine HE.out.mono ?_; rintro e w2 ⟨rfl, q2, rfl⟩)
    | (go_at_call 80; refine (HT.out _).mono ?_; rintro e w3 ⟨rfl, q3, hq3⟩; replace hq3 : w3 = w1.drewN (q2 + q3) := (by rw [hq3]; simp); subst hq3)
    | (go_at_call_of 111 (Value.int .u64 (x : Int)); refine (HX.out _).mono ?_; rintro e w4 ⟨rfl, q4, hq4⟩; replace hq4 : w4 = w1.drewN (q2 + q3 + q4) := (by rw [hq4]; simp); subst hq4)
    | (go_at_call_of 111 (Value.int .u64 (y : Int)); refine (HY.out _).mono ?_; rintro e w5 ⟨rfl, q5, hq5⟩; replace hq5 : w5 = w1.drewN (q2 + q3 + q4 + q5) := (by rw [hq5]; simp); subst hq5)
    | (go_at_call 113; refine (HV.out _).mono ?_; rintro e w6 ⟨rfl, q6, hq6⟩; replace hq6 : w6 = w1.drewN (q2 + q3 + q4 + q5 + q6) := (by rw [hq6]; simp); subst hq6))
  go_ret
  exact ⟨rfl, HB.out, HF.out.drewN _⟩

set_option maxRecDepth 20000 in
set_option maxHeartbeats 2000000 in
theorem equalS_end (w : World) (sb : Nat) (x y : Nat) (r : Bool) (s : Int) (hs : s ≤ 20000) (hK : EqSays (w.alloc (.cells #[.pointer (some ⟨sb, 0, none⟩), .int .i64 0] 130)) w.heap.size sb 0 x y r s) :
    Calls Try.prog 40 #[.pointer (some ⟨sb, 0, none⟩), .int .u64 (x : Int), .int .u64 (y : Int)] w fun e w' => e = .returned (.tuple #[.bool r, .bool true]) ∧ Fr (fun _ => False) w w' := by
  obtain ⟨w1, hw1⟩ : ∃ w1, w1 = w.alloc (.cells #[.pointer (some ⟨sb, 0, none⟩), .int .i64 0] 130) := ⟨_, rfl⟩
  have F1 : Fr (fun _ => False) w w1 := by rw [hw1]; exact (Fr.refl _ w).alloc _
  have C1 : CmpAt w1 w.heap.size sb 0 := by rw [hw1]; exact heap_alloc_new w _
  rw [← hw1] at hK
  have K := hK w1 (Fr.refl _ _) C1
  have hle : ¬ (20000 < s) := by omega
  have HF := hide F1
  have HK := hide K
  have HW := hide hw1
  clear K F1 C1 hK hw1
  go_enter Try.func40, Try.ntmps40
  go_wp2_with fail
  rw [← HW.out]
  go_wp2_with (go_at_call 81; refine HK.out.mono ?_; rintro e w2 ⟨rfl, C2, F2⟩; have c1 := cell_of_row _ _ 1 _ _ _ C2; have HF2 := hide F2; clear C2 F2)
  go_ret2
  exact ⟨rfl, Fr.trans HF.out HF2.out (fun k hk e => by omega)⟩

set_option maxRecDepth 20000 in
set_option maxHeartbeats 2000000 in
theorem equalS_over (w : World) (sb : Nat) (x y : Nat) (r : Bool) (s : Int) (hs : 20000 < s) (hK : EqSays (w.alloc (.cells #[.pointer (some ⟨sb, 0, none⟩), .int .i64 0] 130)) w.heap.size sb 0 x y r s) :
    Calls Try.prog 40 #[.pointer (some ⟨sb, 0, none⟩), .int .u64 (x : Int), .int .u64 (y : Int)] w fun e w' => e = .returned (.tuple #[.bool false, .bool false]) ∧ Fr (fun _ => False) w w' := by
  obtain ⟨w1, hw1⟩ : ∃ w1, w1 = w.alloc (.cells #[.pointer (some ⟨sb, 0, none⟩), .int .i64 0] 130) := ⟨_, rfl⟩
  have F1 : Fr (fun _ => False) w w1 := by rw [hw1]; exact (Fr.refl _ w).alloc _
  have C1 : CmpAt w1 w.heap.size sb 0 := by rw [hw1]; exact heap_alloc_new w _
  rw [← hw1] at hK
  have K := hK w1 (Fr.refl _ _) C1
  have HF := hide F1
  have HK := hide K
  have HW := hide hw1
  clear K F1 C1 hK hw1
  go_enter Try.func40, Try.ntmps40
  go_wp2_with fail
  rw [← HW.out]
  go_wp2_with (go_at_call 81; refine HK.out.mono ?_; rintro e w2 ⟨rfl, C2, F2⟩; have c1 := cell_of_row _ _ 1 _ _ _ C2; have HF2 := hide F2; clear C2 F2)
  go_ret2
  exact ⟨rfl, Fr.trans HF.out HF2.out (fun k hk e => by omega)⟩

end Go.Proofs.Ytenkidbimhmkbaa
