/-
  What is proved here: package value's Equal of pairs, step by step.
-/
import Derived.Test.YtenkidbimhmkbaaVEqual
namespace Go.Proofs.Ytenkidbimhmkbaa
open Go Go.RowKit

/-- What a comparison says of two words: it was s steps old, and is s' steps old behind it. -/
def EqSays (w : World) (cb sb : Nat) (s : Int) (x y : Nat) (r : Bool) (s' : Int) : Prop :=
  ∀ w1, Fr (fun j => j = cb) w w1 → CmpAt w1 cb sb s → Calls Try.prog 81 #[.pointer (some ⟨cb, 0, none⟩), .int .u64 (x : Int), .int .u64 (y : Int)] w1 fun e w' => e = .returned (.bool r) ∧ CmpAt w' cb sb s' ∧ Fr (fun j => j = cb) w1 w'

set_option maxRecDepth 20000 in
set_option maxHeartbeats 2000000 in
theorem equal_over (w : World) (cb sb : Nat) (s : Int) (x y : Nat) (h1 : 20000 ≤ s) (h2 : s ≤ 1000000) : EqSays w cb sb s x y false (s + 1) := by
  intro w1 _ hc
  have c1 := cell_of_row w1 cb 1 _ _ _ hc
  have fz := frozen_of_row w1 cb 1 _ _ hc
  have b1 : CmpAt (w1.setCell ⟨cb, 1, none⟩ (.int .i64 (s + 1))) cb sb (s + 1) := heap_setCell_same w1 cb 1 _ _ _ hc
  have i1 := cell_of_row _ cb 1 _ _ _ b1
  have hle : 20000 < s + 1 := by omega
  have HB := hide b1
  clear b1 hc
  go_enter Try.func81, Try.ntmps81
  go_wp2_with fail
  go_ret
  exact ⟨rfl, HB.out, Fr.setCell (S := fun k => k = cb) (Fr.refl _ _) (fun _ => rfl) _ _⟩

set_option maxRecDepth 20000 in
set_option maxHeartbeats 2000000 in
theorem equal_same (w : World) (cb sb : Nat) (s : Int) (x : Nat) (h0 : 0 ≤ s) (h1 : s < 20000) : EqSays w cb sb s x x true (s + 1) := by
  intro w1 _ hc
  have c1 := cell_of_row w1 cb 1 _ _ _ hc
  have fz := frozen_of_row w1 cb 1 _ _ hc
  have b1 : CmpAt (w1.setCell ⟨cb, 1, none⟩ (.int .i64 (s + 1))) cb sb (s + 1) := heap_setCell_same w1 cb 1 _ _ _ hc
  have i0 := cell_of_row _ cb 0 _ _ _ b1
  have i1 := cell_of_row _ cb 1 _ _ _ b1
  have hle : ¬ (20000 < s + 1) := by omega
  have HB := hide b1
  clear b1 hc
  go_enter Try.func81, Try.ntmps81
  go_wp2_with (go_at_call 25; refine (eqv_same _ sb x).mono ?_; rintro e w2 ⟨rfl, hw⟩; replace hw := hw.symm; subst hw)
  go_ret
  exact ⟨rfl, HB.out, Fr.setCell (S := fun k => k = cb) (Fr.refl _ _) (fun _ => rfl) _ _⟩

/-- What a comparison of pairs says of their fields. -/
def PtSays (w : World) (cb sb : Nat) (s : Int) (x y : Nat) (r : Bool) (s' : Int) : Prop :=
  ∀ w1, Fr (fun j => j = cb) w w1 → CmpAt w1 cb sb s → Calls Try.prog 118 #[.pointer (some ⟨cb, 0, none⟩), .int .u64 (x : Int), .int .u64 (y : Int)] w1 fun e w' => e = .returned (.bool r) ∧ CmpAt w' cb sb s' ∧ Fr (fun j => j = cb) w1 w'

set_option maxRecDepth 20000 in
set_option maxHeartbeats 4000000 in
/-- Two pairs: their fields are asked. -/
theorem equal_pairs (w : World) (cb sb hb : Nat) (X : Nat → Prop) (sz : Nat) (tm : Int) (n : Nat) (f : Nat → Nat) (st : Nat → Bool) (x y : Nat) (s s' : Int) (r : Bool) (h : HeapAt w hb X sz tm n f st) (hS : w.cell? ⟨sb, 0, none⟩ = some (.pointer (some ⟨hb, 0, none⟩))) (hcX : ¬ X cb) (hcs : cb ≠ sb) (hx : x < 18446744073709551616) (hy : y < 18446744073709551616) (hne : x ≠ y) (px : shapeB (headOf f st x) 1 2 0 = true) (py : shapeB (headOf f st y) 1 2 0 = true) (h0 : 0 ≤ s) (h1 : s < 20000) (KP : PtSays w cb sb (s + 1) x y r s') : EqSays w cb sb s x y r s' := by
  intro w0 F0 hc
  have hsl : sb < w.heap.size := World.block_lt_of_cell? _ _ hS
  have kx : hKind (headOf f st x) = 1 := by unfold shapeB at px; simp at px; omega
  have c0 := cell_of_row w0 cb 0 _ _ _ hc
  have c1 := cell_of_row w0 cb 1 _ _ _ hc
  have fz := frozen_of_row w0 cb 1 _ _ hc
  have F1 : Fr (fun k => k = cb) w0 (w0.setCell ⟨cb, 1, none⟩ (.int .i64 (s + 1))) := Fr.setCell (S := fun k => k = cb) (Fr.refl _ _) (fun _ => rfl) _ _
  have b1 : CmpAt (w0.setCell ⟨cb, 1, none⟩ (.int .i64 (s + 1))) cb sb (s + 1) := heap_setCell_same w0 cb 1 _ _ _ hc
  have e0 := cell_of_row _ cb 0 _ _ _ b1
  have e1 := cell_of_row _ cb 1 _ _ _ b1
  have i0 := e0
  have i1 := e1
  obtain ⟨w1, hw1⟩ : ∃ w1, w1 = w0.setCell ⟨cb, 1, none⟩ (.int .i64 (s + 1)) := ⟨_, rfl⟩
  rw [← hw1] at F1 b1 e0 e1
  have FW : Fr (fun k => k = cb) w w1 := Fr.trans F0 F1 (fun _ _ e => e)
  have H1 := h.fr FW (fun k hk e => hcX (e ▸ hk))
  have S1 := (FW.cell (o := 0) hsl (fun e => hcs e.symm)).trans hS
  have KE := eqv_no w1 sb hb X sz tm n f st x y H1 S1 hx hne (by omega)
  have KT := fun q => isText_no (w1.drewN q) sb hb X sz tm n f st x (H1.drewN q) S1 hx (by omega)
  have KX := fun q => isPair_any (w1.drewN q) sb hb X sz tm n f st x (H1.drewN q) S1 hx
  rw [px] at KX
  have KY := fun q => isPair_any (w1.drewN q) sb hb X sz tm n f st y (H1.drewN q) S1 hy
  rw [py] at KY
  have KS := fun q => KP (w1.drewN q) (FW.drewN q) b1
  have hle : ¬ (20000 < s + 1) := by omega
  have HE := hide KE
  have HT := hide KT
  have HX := hide KX
  have HY := hide KY
  have HS := hide KS
  have HF := hide F1
  have HW := hide hw1
  clear KE KT KX KY KS KP F1 b1 H1 S1 h hS hc hw1 FW F0
  go_enter Try.func81, Try.ntmps81
  go_wp2_with fail
  rw [← HW.out]
  clear i0 i1 c0 c1
  go_wp2_with (first
    | (go_at_call 25; refine HE.out.mono ?_; rintro e w2 ⟨rfl, q2, rfl⟩)
    | (go_at_call 80; refine (HT.out _).mono ?_; rintro e w3 ⟨rfl, q3, hq3⟩; replace hq3 : w3 = w1.drewN (q2 + q3) := (by rw [hq3]; simp); subst hq3)
    | (go_at_call_of 111 (Value.int .u64 (x : Int)); refine (HX.out _).mono ?_; rintro e w4 ⟨rfl, q4, hq4⟩; replace hq4 : w4 = w1.drewN (q2 + q3 + q4) := (by rw [hq4]; simp); subst hq4)
    | (go_at_call_of 111 (Value.int .u64 (y : Int)); refine (HY.out _).mono ?_; rintro e w5 ⟨rfl, q5, hq5⟩; replace hq5 : w5 = w1.drewN (q2 + q3 + q4 + q5) := (by rw [hq5]; simp); subst hq5)
    | (go_at_call 118; refine (HS.out _).mono ?_; rintro e w6 ⟨rfl, C6, F6⟩; have HC6 := hide C6; have HF6 := hide (Fr.trans (HF.out.drewN (q2 + q3 + q4 + q5)) F6 (fun _ _ e => e)); clear C6 F6))
  go_ret
  exact ⟨rfl, HC6.out, HF6.out⟩

end Go.Proofs.Ytenkidbimhmkbaa
