/-
  What is proved here: plain facts on headers, on bits, and on rows of words with objects in them; no walk.
-/
import Derived.Test.YtilcigjhogcjkaaBase
namespace Go.Proofs.Ytilcigjhogcjkaa
open Go Go.RowKit

/-- A header's parts. -/
def hKind (x : Nat) : Nat := x / 4 % 64
def hTag (x : Nat) : Nat := x / 256 % 16777216
def hRaw (x : Nat) : Nat := x / 4294967296 % 16777216
def hLen (x : Nat) : Nat := 1 + hTag x + hRaw x
def hOf (k t r : Nat) : Nat := 3 + 4 * k + 256 * t + 4294967296 * r

theorem hKind_of {k t r : Nat} (hk : k ≤ 63) : hKind (hOf k t r) = k := by unfold hKind hOf; omega
theorem hTag_of {k t r : Nat} (hk : k ≤ 63) (ht : t ≤ 1048576) : hTag (hOf k t r) = t := by unfold hTag hOf; omega
theorem hRaw_of {k t r : Nat} (hk : k ≤ 63) (ht : t ≤ 1048576) (hr : r ≤ 1048576) : hRaw (hOf k t r) = r := by unfold hRaw hOf; omega
theorem hLen_of {k t r : Nat} (hk : k ≤ 63) (ht : t ≤ 1048576) (hr : r ≤ 1048576) : hLen (hOf k t r) = 1 + t + r := by
  unfold hLen; rw [hTag_of hk ht, hRaw_of hk ht hr]
theorem hOf_mod (k t r : Nat) : hOf k t r % 4 = 3 := by unfold hOf; omega
theorem hOf_lt {k t r : Nat} (hk : k ≤ 63) (ht : t ≤ 1048576) (hr : r ≤ 1048576) : hOf k t r < 18446744073709551616 := by unfold hOf; omega
theorem hTag_lt (x : Nat) : hTag x < 16777216 := Nat.mod_lt _ (by omega)
theorem hRaw_lt (x : Nat) : hRaw x < 16777216 := Nat.mod_lt _ (by omega)
theorem hTag_zero : hTag 0 = 0 := rfl
theorem hRaw_zero : hRaw 0 = 0 := rfl
theorem hKind_zero : hKind 0 = 0 := rfl

/-- The places that m words of bits mark. -/
def marks (m : Nat) (s : Nat → Nat) (p : Nat) : Bool := decide (p / 64 < m) && (s (p / 64)).testBit (p % 64)

/-- The words from 0 to below n, and where objects are. -/
structure Good (n : Nat) (f : Nat → Nat) (st : Nat → Bool) : Prop where
  pos : 1 ≤ n
  inn : ∀ p, st p = true → 1 ≤ p ∧ p + hLen (f p) ≤ n
  tag : ∀ p, st p = true → f p % 4 = 3
  apart : ∀ p q, st p = true → st q = true → p < q → p + hLen (f p) ≤ q

theorem Good.lt {n : Nat} {f : Nat → Nat} {st : Nat → Bool} (h : Good n f st) {p : Nat} (hp : st p = true) : p < n := by
  have := (h.inn p hp).2
  unfold hLen at this
  omega

theorem Good.one : Good 1 (fun _ => 0) (fun _ => false) := ⟨Nat.le_refl _, (fun _ h => by cases h), (fun _ h => by cases h), (fun _ _ h => by cases h)⟩

/-- The words behind a new object at n, whose header is x. -/
def laid (f : Nat → Nat) (n x : Nat) : Nat → Nat := fun i => if i < n then f i else if i = n then x else if i ≤ n + hTag x then 2 else 0
def also (st : Nat → Bool) (n : Nat) : Nat → Bool := fun p => st p || p == n

theorem laid_old {f : Nat → Nat} {n x i : Nat} (h : i < n) : laid f n x i = f i := by simp [laid, h]
theorem laid_head (f : Nat → Nat) (n x : Nat) : laid f n x n = x := by simp [laid]
theorem laid_tag {f : Nat → Nat} {n x i : Nat} (h : i < hTag x) : laid f n x (n + 1 + i) = 2 := by
  unfold laid
  rw [if_neg (by omega), if_neg (by omega), if_pos (by omega)]
theorem laid_raw {f : Nat → Nat} {n x i : Nat} : laid f n x (n + 1 + hTag x + i) = 0 := by
  unfold laid
  rw [if_neg (by omega), if_neg (by omega), if_neg (by omega)]
theorem also_new (st : Nat → Bool) (n : Nat) : also st n n = true := by simp [also]
theorem also_old {st : Nat → Bool} {n p : Nat} (h : p ≠ n) : also st n p = st p := by simp [also, h]

theorem Good.laid {n : Nat} {f : Nat → Nat} {st : Nat → Bool} (h : Good n f st) {x : Nat} (hx : x % 4 = 3) :
    Good (n + hLen x) (laid f n x) (also st n) := by
  have hp := h.pos
  have key : ∀ p, also st n p = true → p = n ∨ (st p = true ∧ p < n) := fun p e => by
    by_cases hpn : p = n
    · exact .inl hpn
    · rw [also_old hpn] at e; exact .inr ⟨e, h.lt e⟩
  refine ⟨by omega, fun p e => ?_, fun p e => ?_, fun p q e e' hpq => ?_⟩
  · rcases key p e with rfl | ⟨e1, e2⟩
    · rw [laid_head]; omega
    · rw [laid_old e2]; have := h.inn p e1; omega
  · rcases key p e with rfl | ⟨e1, e2⟩
    · rw [laid_head, hx]
    · rw [laid_old e2]; exact h.tag p e1
  · rcases key p e with rfl | ⟨e1, e2⟩
    · rcases key q e' with rfl | ⟨e3, e4⟩
      · omega
      · omega
    · rw [laid_old e2]
      rcases key q e' with rfl | ⟨e3, e4⟩
      · exact (h.inn p e1).2
      · exact h.apart p q e1 e3 hpq

/-- A field is no header. -/
theorem Good.field {n : Nat} {f : Nat → Nat} {st : Nat → Bool} (h : Good n f st) {p i : Nat} (hp : st p = true) (hi : i + 1 < hLen (f p)) : st (p + 1 + i) = false := by
  cases e : st (p + 1 + i) with
  | false => rfl
  | true => have := h.apart p _ hp e (by omega); omega

theorem Good.set {n : Nat} {f : Nat → Nat} {st : Nat → Bool} (h : Good n f st) {j x : Nat} (hj : st j = false) : Good n (upd f j x) st := by
  have key : ∀ p, st p = true → upd f j x p = f p := fun p e => upd_other (fun ee => by rw [ee, hj] at e; cases e)
  refine ⟨h.pos, fun p e => ?_, fun p e => ?_, fun p q e e' hpq => ?_⟩
  · rw [key p e]; exact h.inn p e
  · rw [key p e]; exact h.tag p e
  · rw [key p e]; exact h.apart p q e e' hpq

end Go.Proofs.Ytilcigjhogcjkaa
