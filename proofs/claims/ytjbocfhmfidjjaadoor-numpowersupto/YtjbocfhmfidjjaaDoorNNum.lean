/-
  What is proved here: a number in new memory, said by its value.
-/
import Derived.Test.YtjbocfhmfidjjaaDoorNTrunc
import Derived.Test.YtjbocfhmfidjjaaDoorNSmall
import Derived.Test.YtjbocfhmfidjjaaDoorNAwake
namespace Go.Proofs.YtjbocfhmfidjjaaDoor
open Go Go.RowKit

/-- The number a, in blocks from lo on, below hi: its sign and its limbs. -/
def CopIn (b : Bool) (n : Nat) (f : Nat → Nat) (w : World) (lo hi : Nat) (a : Value) : Prop := ∃ v, a = .agg #[.bool b, v] ∧ OwnIn w lo hi v n f
/-- The canonical number a in blocks from lo on, below hi: its value is X, it has at most M limbs. -/
def NumIn (X : Int) (M : Nat) (w : World) (lo hi : Nat) (a : Value) : Prop := ∃ b n f, CopIn b n f w lo hi a ∧ CanZ b f n ∧ n ≤ M ∧ sgn b (num 4294967296 f n) = X
theorem CopIn.keep {b : Bool} {n : Nat} {f : Nat → Nat} {w w' : World} {lo hi : Nat} {a : Value} (h : CopIn b n f w lo hi a) (hb : ∀ b, lo ≤ b → b < hi → w'.heap[b]? = w.heap[b]?) : CopIn b n f w' lo hi a := by
  obtain ⟨v, e, o⟩ := h
  exact ⟨v, e, o.keep hb⟩
theorem NumIn.keep {X : Int} {M : Nat} {w w' : World} {lo hi : Nat} {a : Value} (h : NumIn X M w lo hi a) (hb : ∀ b, lo ≤ b → b < hi → w'.heap[b]? = w.heap[b]?) : NumIn X M w' lo hi a := by
  obtain ⟨b, n, f, c, r⟩ := h
  exact ⟨b, n, f, c.keep hb, r⟩
theorem CopIn.of {b : Bool} {n : Nat} {f : Nat → Nat} {w : World} {lo : Nat} {a : Value} (h : OwnN w lo a b n f) : CopIn b n f w lo w.heap.size a := by
  obtain ⟨v, e, o⟩ := h
  exact ⟨v, e, OwnIn.of o⟩
theorem CopIn.nm {b : Bool} {n : Nat} {f : Nat → Nat} {w : World} {lo hi : Nat} {a : Value} (h : CopIn b n f w lo hi a) : Nm w a b n f := by
  obtain ⟨v, e, o⟩ := h
  exact ⟨v, e, o.sl⟩

end Go.Proofs.YtjbocfhmfidjjaaDoor
