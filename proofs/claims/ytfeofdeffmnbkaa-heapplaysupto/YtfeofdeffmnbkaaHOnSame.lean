/-
  What is proved here: tandemlaw03's same: heaps that hold the same words tell alike.
-/
import Derived.Test.YtfeofdeffmnbkaaHOn2
import Derived.Deep.RegionHeld3
namespace Go.Proofs.Ytfeofdeffmnbkaa
open Go Go.RowKit

theorem drewFr' {w w1 : World} (h : ∃ q, w1 = w.drewN q) : Fr (fun _ => False) w w1 := by
  obtain ⟨q, rfl⟩ := h
  exact (Fr.refl _ _).drewN q
theorem ownRd {k : IntKind} {E : TypeId} {w : World} {base : Nat} {ao : Option Addr} {n cap : Nat} {f : Nat → Nat} (h : Own k E w base (.slice ao n cap) n f) : Rd k w ao n f := by
  obtain ⟨ao', cap', e, _, _, _, h3⟩ := h.sl
  cases e
  exact h3

set_option maxRecDepth 20000 in
set_option maxHeartbeats 20000000 in
theorem same_any (w : World) (ob hb : Nat) (X : Nat → Prop) (rb : Nat) (Y : Nat → Prop) (vO : Value) (sz : Nat) (tm : Int) (n : Nat) (f : Nat → Nat) (st : Nat → Bool) (m : Nat) (o : Nat → Nat) (h : OnIn w ob hb X rb Y vO sz tm n f st m o) :
    Calls Try.prog 14 #[.pointer (some ⟨ob, 0, none⟩)] w fun e w' => e = .returned (.bool true) ∧ Fr (fun _ => False) w w' := by
  have co0 := h.cells.1
  have co1 := h.cells.2.1
  have hol := h.lt
  have hrl := h.R.lt (k := rb) (by obtain ⟨vW, vH, hn, hd, hr⟩ := h.R; exact (hr.xs rb).2 (.inl rfl))
  have hgd := h.H.good
  have hnn : n ≤ 1048576 := Nat.le_trans hgd.2.2.1 hgd.2.2.2
  obtain ⟨vW, vH, hn, hd, hr⟩ := h.R
  obtain ⟨cr0, cr1, cr2, cr3⟩ := hr.cells
  obtain ⟨aoW, capW, rfl⟩ := hr.oW.shape
  have HW := hide hr.oW
  have HH := hide h.H
  have hll : Hid (ob < w.heap.size ∧ rb < w.heap.size) := hide ⟨hol, hrl⟩
  have e1 : ((sz : Int) == (sz : Int)) = true := by simp
  have e2 : ((n : Int) == (n : Int)) = true := by simp
  have e3 : (tm == tm) = true := by simp
  clear h hr hol hrl hgd cr2
  go_enter Try.func14, Try.ntmps14
  go_wp2
  go_region_held3 (fun w' => w'.cell? ⟨ob, 0, none⟩ = some (.pointer (some ⟨hb, 0, none⟩)) ∧ w'.cell? ⟨ob, 1, none⟩ = some (.pointer (some ⟨rb, 0, none⟩)) ∧ w'.cell? ⟨rb, 0, none⟩ = some (.int .i64 (sz : Int)) ∧ w'.cell? ⟨rb, 1, none⟩ = some (.slice aoW n capW) ∧ w'.cell? ⟨rb, 3, none⟩ = some (.int .i64 tm)) (go_keep)
    (first
      | (go_at_call 34; refine (size_any _ hb X sz tm n f st (HH.out.drewN 1)).mono ?_; rintro e w2 ⟨rfl, hw⟩; replace hw := hw.symm; subst hw)
      | (go_at_call 28; refine (used_any _ hb X sz tm n f st (HH.out.drewN 1)).mono ?_; rintro e w2 ⟨rfl, hq⟩; have F2 : Fr (fun _ => False) w w2 := Fr.trans ((Fr.refl _ w).drew) (drewFr' hq) (fun _ _ e => e); have HF2 := hide F2; have d0 := (F2.cell (o := 0) hll.out.1 (fun e => e)).trans co0; have d1 := (F2.cell (o := 1) hll.out.1 (fun e => e)).trans co1; have d2 := (F2.cell (o := 0) hll.out.2 (fun e => e)).trans cr0; have d3 := (F2.cell (o := 1) hll.out.2 (fun e => e)).trans cr1; have d4 := (F2.cell (o := 3) hll.out.2 (fun e => e)).trans cr3; clear F2 hq)
      | (go_at_call 19; refine (times_any _ hb X sz tm n f st (HH.out.fr HF2.out (fun _ _ e => e))).mono ?_; rintro e w3 ⟨rfl, hw⟩; replace hw := hw.symm; subst hw)
      | (go_at_call 17; refine (words_any _ hb X sz tm n f st (HH.out.fr HF2.out (fun _ _ e => e))).mono ?_; rintro e w4 ⟨v4, rfl, Q4, F4⟩; obtain ⟨ao4, cap4, rfl⟩ := Q4.shape; have HQ4 := hide Q4; have HF4 := hide (Fr.trans HF2.out F4 (fun _ _ e => e)); have g0 := (F4.cell (o := 0) (Nat.lt_of_lt_of_le hll.out.1 HF2.out.size) (fun e => e)).trans d0; have g1 := (F4.cell (o := 1) (Nat.lt_of_lt_of_le hll.out.1 HF2.out.size) (fun e => e)).trans d1; have g2 := (F4.cell (o := 0) (Nat.lt_of_lt_of_le hll.out.2 HF2.out.size) (fun e => e)).trans d2; have g3 := (F4.cell (o := 1) (Nat.lt_of_lt_of_le hll.out.2 HF2.out.size) (fun e => e)).trans d3; have g4 := (F4.cell (o := 3) (Nat.lt_of_lt_of_le hll.out.2 HF2.out.size) (fun e => e)).trans d4; clear Q4 F4)
      | (go_at_call 21; refine (sameW_any ao4 aoW n cap4 capW f _ (ownRd HQ4.out) (ownRd (HW.out.fr HF4.out (fun _ _ e => e))) (by omega)).mono ?_; rintro e w5 ⟨rfl, F5⟩; have i0 := (F5.cell (o := 0) (Nat.lt_of_lt_of_le hll.out.1 HF4.out.size) (fun e => e)).trans g0; have i1 := (F5.cell (o := 1) (Nat.lt_of_lt_of_le hll.out.1 HF4.out.size) (fun e => e)).trans g1; have i2 := (F5.cell (o := 0) (Nat.lt_of_lt_of_le hll.out.2 HF4.out.size) (fun e => e)).trans g2; have i3 := (F5.cell (o := 1) (Nat.lt_of_lt_of_le hll.out.2 HF4.out.size) (fun e => e)).trans g3; have i4 := (F5.cell (o := 3) (Nat.lt_of_lt_of_le hll.out.2 HF4.out.size) (fun e => e)).trans g4; have HF5 := hide (Fr.trans HF4.out F5 (fun _ _ e => e)); clear F5))
  go_wp2
  go_ret
  exact ⟨rfl, HF5.out⟩

end Go.Proofs.Ytfeofdeffmnbkaa
