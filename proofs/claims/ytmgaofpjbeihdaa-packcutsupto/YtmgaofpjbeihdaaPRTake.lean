/-
  What is proved here: the reader's take (package pack).
-/
import Derived.Test.YtmgaofpjbeihdaaPRBase
namespace Go.Proofs.Ytmgaofpjbeihdaa
open Go Go.RowKit

set_option maxRecDepth 20000 in
theorem rtake_no (w0 w : World) (rb p k : Nat) (l : List Nat) (h : RS w0 w rb l p) (hk : l.length < k) (_hk2 : k ≤ 9223372036854775807) :
    Calls Try.prog 47 #[.pointer (some ⟨rb, 0, none⟩), .int .i64 (k : Int)] w fun e w' => e = .panicked PAN ∧ w' = w := by
  obtain ⟨hU, hrb, v, hB, hR⟩ := h
  obtain ⟨ao, cap, rfl, -⟩ := hB
  have x0 := hR.c0
  have g1 : ¬ ((k : Int) ≤ (l.length : Int)) := by omega
  have HM := hide (fun (W : World) => must_no W)
  clear hR hU hk
  go_enter Try.func47, Try.ntmps47
  go_wp2_with (go_at_call 46; refine (HM.out _).mono ?_; rintro e1 w1 ⟨rfl, hw⟩; replace hw := hw.symm; subst hw)
  exact ⟨rfl, rfl, rfl⟩

theorem RS.set {w0 w : World} {rb p : Nat} {l l' : List Nat} {v' : Value} (h : RS w0 w rb l p) (hB : BL w0 v' l') : RS w0 (w.setCell ⟨rb, 0, none⟩ v') rb l' p := by
  obtain ⟨hU, hrb, v, -, hR⟩ := h
  exact ⟨⟨hU.os, hU.tape, hU.output, by simpa [World.setCell] using hU.size, fun k hk => (heap_setCell_other _ _ _ _ (by show k ≠ rb; omega)).trans (hU.block k hk)⟩, hrb, v', hB, hR.set0 v'⟩
/-- What is taken, and what is left. -/
def TE (w0 w : World) (rb p k : Nat) (l : List Nat) (e : Ending) (w' : World) : Prop := ∃ v1, e = .returned v1 ∧ BL w0 v1 (l.take k) ∧ RS w0 w' rb (l.drop k) p ∧ Fr (fun j => j = rb) w w'

set_option maxRecDepth 20000 in
theorem rtake_yes (w0 w : World) (rb p k : Nat) (l : List Nat) (h : RS w0 w rb l p) (hk : k ≤ l.length) :
    Calls Try.prog 47 #[.pointer (some ⟨rb, 0, none⟩), .int .i64 (k : Int)] w fun e w' => TE w0 w rb p k l e w' := by
  obtain ⟨hU, hrb, v, hB, hR⟩ := id h
  obtain ⟨ao, cap, rfl, hc1, hc2, hc3⟩ := id hB
  have x0 := hR.c0
  have x1 := hR.fz 0
  have g1 : (k : Int) ≤ (l.length : Int) := by omega
  have g2 : (l.length : Int) ≤ (cap : Int) := by omega
  have HM := hide (fun (W : World) => must_yes W)
  have HRS := hide h
  rcases hc3 with ⟨rfl, rfl⟩ | ⟨g, off, rfl, -⟩
  · have hl0 : l = [] := List.length_eq_zero_iff.1 (by omega)
    subst hl0
    have hk0 : k = 0 := by simpa using hk
    subst hk0
    clear hR hU hB h hk g1 g2 hc1 hc2
    go_enter Try.func47, Try.ntmps47
    go_wp2_with (go_at_call 46; refine (HM.out _).mono ?_; rintro e1 w1 ⟨rfl, hw⟩; replace hw := hw.symm; subst hw)
    go_ret
    exact ⟨_, rfl, ⟨none, 0, rfl, by simp, by simp, .inl ⟨rfl, rfl⟩⟩, HRS.out.set ⟨none, 0, rfl, by simp, by simp, .inl ⟨rfl, rfl⟩⟩, Fr.setCell (S := fun j => j = rb) (Fr.refl _ _) (fun _ => rfl) _ _⟩
  · have HT := hide (hB.take hk)
    by_cases hkc : k = cap
    · have HD := hide (hB.end (k := k) (by omega))
      subst hkc
      rw [Nat.sub_self] at HD
      clear hR hU hB h hk hc1 hc2
      go_enter Try.func47, Try.ntmps47
      go_wp2_with (go_at_call 46; refine (HM.out _).mono ?_; rintro e1 w1 ⟨rfl, hw⟩; replace hw := hw.symm; subst hw)
      go_ret
      exact ⟨_, rfl, HT.out, HRS.out.set HD.out, Fr.setCell (S := fun j => j = rb) (Fr.refl _ _) (fun _ => rfl) _ _⟩
    · have HD := hide (hB.drop hk)
      have g3 : (k : Int) < (cap : Int) := by omega
      clear hR hU hB h hk hc1 hc2
      go_enter Try.func47, Try.ntmps47
      go_wp2_with (go_at_call 46; refine (HM.out _).mono ?_; rintro e1 w1 ⟨rfl, hw⟩; replace hw := hw.symm; subst hw)
      go_ret
      exact ⟨_, rfl, HT.out, HRS.out.set HD.out, Fr.setCell (S := fun j => j = rb) (Fr.refl _ _) (fun _ => rfl) _ _⟩

end Go.Proofs.Ytmgaofpjbeihdaa
