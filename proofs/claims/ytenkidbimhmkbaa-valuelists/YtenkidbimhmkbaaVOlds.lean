/-
  What is proved here: words below a new object are as they were; no walk.
-/
import Derived.Test.YtenkidbimhmkbaaVChainM
namespace Go.Proofs.Ytenkidbimhmkbaa
open Go Go.RowKit

theorem ptr_of {st : Nat → Bool} {q : Nat} (h : st q = true) : isPtr st (4 * q) = true := by
  unfold isPtr
  rw [show 4 * q / 4 = q by omega, h, show 4 * q % 4 = 0 by omega]
  rfl
theorem may_at {st : Nat → Bool} {x : Nat} (h : isPtr st x = true) : may st x = true := by
  unfold may
  rw [h, Bool.or_true]
theorem consF_head (f : Nat → Nat) (n a b : Nat) : consF f n a b n = hOf 1 2 0 := tagF_head _ _ _ _ _
theorem consF_car (f : Nat → Nat) (n a b : Nat) : consF f n a b (n + 1) = a := by
  unfold consF tagF
  rw [if_pos (by omega), Nat.sub_self]
  rfl
theorem consF_cdr (f : Nat → Nat) (n a b : Nat) : consF f n a b (n + 2) = b := by
  unfold consF tagF
  rw [if_pos (by omega), show n + 2 - (n + 1) = 1 by omega]
  rfl
theorem consF_old {f : Nat → Nat} {n a b j : Nat} (h : j < n) : consF f n a b j = f j := by
  unfold consF tagF
  rw [if_neg (by omega), laid_old h]

/-- The words below n are as they were. -/
def Olds (f : Nat → Nat) (st : Nat → Bool) (f' : Nat → Nat) (st' : Nat → Bool) (n : Nat) : Prop := ∀ j, j < n → f' j = f j ∧ (st j = true → st' j = true)
theorem Olds.trans {f f' f'' : Nat → Nat} {st st' st'' : Nat → Bool} {n m : Nat} (h : Olds f st f' st' n) (h' : Olds f' st' f'' st'' m) (hm : n ≤ m) : Olds f st f'' st'' n := fun j hj => ⟨(h' j (by omega)).1.trans (h j hj).1, fun e => (h' j (by omega)).2 ((h j hj).2 e)⟩
theorem olds_cons (f : Nat → Nat) (st : Nat → Bool) (n a b : Nat) : Olds f st (consF f n a b) (also st n) n := fun j hj => ⟨consF_old hj, fun e => by simp [also, e]⟩
theorem olds_upd (f : Nat → Nat) (st : Nat → Bool) (n i x : Nat) (h : n ≤ i) : Olds f st (upd f i x) st n := fun j hj => ⟨upd_other (by omega), fun e => e⟩

end Go.Proofs.Ytenkidbimhmkbaa
