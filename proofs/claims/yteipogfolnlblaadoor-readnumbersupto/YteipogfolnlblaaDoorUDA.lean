/-
  What is proved here: tandemlaw05.awake.
-/
import Derived.Test.YteipogfolnlblaaDoorUD
import Derived.KernelRfl
namespace Go.Proofs.YteipogfolnlblaaDoor
open Go Go.RowKit

/-- How many items a lone datum has. -/
def nItems {h : Nat} (R : LP ⊕ List (Tr (h + 1))) : Option Nat := match R with
  | .inr [(_, _, _, _, _, I, _)] => some I.length
  | _ => none
def erOf {h : Nat} (R : LP ⊕ List (Tr (h + 1))) : Option (Nat × Nat) := match R with
  | .inl q => some (q.x, q.er)
  | _ => none
theorem awake1 : nItems (allR (rT ⟨#[40, 97, 32, 46, 32, 40, 98, 32, 49, 50, 41, 41, 32, 59, 32, 120]⟩) 17 0 []) = some 3 := by kernel_rfl
theorem awake2 : erOf (allR (rT ⟨#[40, 46, 32, 97, 41]⟩) 6 0 []) = some (1, 15) := by kernel_rfl
theorem nItems_one {h : Nat} {R : LP ⊕ List (Tr (h + 1))} {n : Nat} (e : nItems R = some n) : ∃ k m b L t I J, R = .inr [(k, m, b, L, t, I, J)] ∧ I.length = n := by
  match R, e with
  | .inr [(k, m, b, L, t, I, J)], e => exact ⟨k, m, b, L, t, I, J, rfl, by simpa [nItems] using e⟩
theorem erOf_one {h : Nat} {R : LP ⊕ List (Tr (h + 1))} {x y : Nat} (e : erOf R = some (x, y)) : ∃ q, R = .inl q ∧ q.x = x ∧ q.er = y := by
  match R, e with
  | .inl q, e => exact ⟨q, rfl, by simp [erOf] at e; exact e.1, by simp [erOf] at e; exact e.2⟩
theorem all_awake1 (w : World) : Calls Tryd.prog 12 #[.string ⟨#[40, 97, 32, 46, 32, 40, 98, 32, 49, 50, 41, 41, 32, 59, 32, 120]⟩] w fun e w' => Up w w' ∧ ∃ b off cap i1 i3, e = .returned (.tuple #[.slice (some ⟨b, off, none⟩) 1 cap, .int .i64 0, .int .i64 0]) ∧ w'.cell? ⟨b, off + 5, none⟩ = some (.slice i1 3 i3) ∧ 1 ≤ cap ∧ cap ≤ 9223372036854775807 := by
  have h := all_any ⟨#[40, 97, 32, 46, 32, 40, 98, 32, 49, 50, 41, 41, 32, 59, 32, 120]⟩ w (by decide)
  obtain ⟨k, m, b, L, t, I, J, e1, e2⟩ := nItems_one awake1
  refine (all_good e1 h).mono ?_
  rintro e w' ⟨h1, ao, cap, rfl, h2⟩
  obtain ⟨b, off, cap', e, hc1, hc2, ⟨cs, k1, k2, um, ui, ur, rfl, -, -, -, h5, -⟩, -⟩ := h2.head
  obtain ⟨i1, i3, rfl⟩ := h5.shape
  cases e
  exact ⟨h1, b, off, cap, i1, i3, rfl, by have := k2 5 (by decide); rw [e2] at this; exact this, by simpa using hc1, hc2⟩
theorem all_awake2 (w : World) : Calls Tryd.prog 12 #[.string ⟨#[40, 46, 32, 97, 41]⟩] w fun e w' => Up w w' ∧ e = .returned (.tuple #[.slice none 0 0, .int .i64 1, .int .i64 15]) := by
  have h := all_any ⟨#[40, 46, 32, 97, 41]⟩ w (by decide)
  obtain ⟨q, e1, e2, e3⟩ := erOf_one awake2
  have h' := all_bad e1 h
  rw [e2, e3] at h'
  exact h'
set_option maxHeartbeats 4000000 in
set_option maxRecDepth 100000 in
theorem awake_any (w : World) : Calls Tryd.prog 5 #[] w fun e w' => e = .returned (.bool true) ∧ Up w w' := by
  have K1 := all_awake1 w
  have K2 := fun (W : World) => all_awake2 W
  have H1 := hide K1
  have H2 := hide K2
  clear K1 K2
  go_enter Tryd.func5, Tryd.ntmps5
  go_wp2_with (first
    | (have hh := HU1; clear hh; go_at_call 12; refine (H2.out _).mono ?_; rintro e w2 ⟨u2, rfl⟩; have c2 := (u2.cell (World.block_lt_of_cell? _ _ c1)).trans c1; have HU2 := hide (HU1.out.tr u2); clear u2 c1)
    | (go_at_call 12; refine H1.out.mono ?_; rintro e w1 ⟨u1, b, off, cap, i1, i3, rfl, c1, hc1, hc2⟩; have HU1 := hide u1; clear u1))
  go_ret
  exact ⟨rfl, HU2.out⟩

end Go.Proofs.YteipogfolnlblaaDoor
