/-
  What is proved here: plain facts on reading all data of a text, one behind the other; no walk.
-/
import Derived.Test.YteipogfolnlblaaWXG
namespace Go.Proofs.Yteipogfolnlblaa
open Go Go.RowKit

/-- What All comes to from a place on, behind some data. -/
def allR {h : Nat} (r : RM h) : Nat → Nat → List (Tr (h + 1)) → LP ⊕ List (Tr (h + 1))
  | 0, a, _ => .inl (ftP 0 0 a)
  | g + 1, a, I =>
    if (r.nx 0 a).k = 0 then .inr I
    else match r.dt (r.nx 0 a) with
      | .inl q => .inl q
      | .inr (_, _, tr, a') => allR r g a' (I ++ [tr])

theorem allR_pre {h : Nat} (r : RM h) : ∀ (g a : Nat) (I J : List (Tr (h + 1))), allR r g a I = .inr J → ∃ K, J = I ++ K
  | 0, _, _, _, e => by cases e
  | g + 1, a, I, J, e => by
    unfold allR at e
    split at e
    · cases e
      exact ⟨[], by simp⟩
    · match hr : r.dt (r.nx 0 a) with
      | .inl q => rw [hr] at e; cases e
      | .inr (x, y, tr, a') =>
        rw [hr] at e
        obtain ⟨K, hK⟩ := allR_pre r g a' (I ++ [tr]) J e
        exact ⟨tr :: K, by rw [hK]; simp⟩
/-- There is one more. -/
theorem allR_more {h : Nat} {r : RM h} {g a k : Nat} {J : List (Tr (h + 1))} (e : allR r g a (J.take k) = .inr J) (hk : k < J.length) : ∃ x y a' g', r.dt (r.nx 0 a) = .inr (x, y, J[k], a') ∧ allR r g' a' (J.take (k + 1)) = .inr J := by
  match g, e with
  | g + 1, e =>
    unfold allR at e
    split at e
    · injection e with e
      have := congrArg List.length e
      rw [List.length_take] at this
      omega
    · match hr : r.dt (r.nx 0 a) with
      | .inl q => rw [hr] at e; cases e
      | .inr (x, y, tr, a') =>
        rw [hr] at e
        obtain ⟨K, hK⟩ := allR_pre r g a' (J.take k ++ [tr]) J e
        have h1 : J[k]? = some tr := by
          rw [hK, List.append_assoc, List.getElem?_append_right (by rw [List.length_take]; omega)]
          simp [List.length_take, Nat.min_eq_left (Nat.le_of_lt hk)]
        have h2 : J[k] = tr := by rw [List.getElem?_eq_getElem hk] at h1; exact Option.some.inj h1
        subst h2
        refine ⟨x, y, a', g, rfl, ?_⟩
        rw [List.take_succ_eq_append_getElem hk]
        exact e
/-- There is none more. -/
theorem allR_end {h : Nat} {r : RM h} {g a : Nat} {J : List (Tr (h + 1))} (e : allR r g a J = .inr J) : (r.nx 0 a).k = 0 := by
  match g, e with
  | g + 1, e =>
    unfold allR at e
    split at e
    · assumption
    · match hr : r.dt (r.nx 0 a) with
      | .inl q => rw [hr] at e; cases e
      | .inr (x, y, tr, a') =>
        rw [hr] at e
        obtain ⟨K, hK⟩ := allR_pre r g a' (J ++ [tr]) J e
        have := congrArg List.length hK
        simp at this

end Go.Proofs.Yteipogfolnlblaa
