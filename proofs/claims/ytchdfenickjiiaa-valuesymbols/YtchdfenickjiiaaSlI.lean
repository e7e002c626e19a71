/-
  What is proved here: nothing; a word: a list of whole numbers that can be read.
-/
import Derived.Test.YtchdfenickjiiaaHBase
namespace Go.Proofs.Ytchdfenickjiiaa
open Go Go.RowKit

/-- A list of whole numbers that can be read. -/
def SlI (k : IntKind) (w : World) (v : Value) (n : Nat) (g : Nat → Int) : Prop :=
  ∃ ao cap, v = .slice ao n cap ∧ n ≤ cap ∧ cap ≤ 9223372036854775807 ∧ (n = 0 ∨ ∃ b off, ao = some ⟨b, off, none⟩ ∧ ∀ i, i < n → w.cell? ⟨b, off + i, none⟩ = some (.int k (g i)))

end Go.Proofs.Ytchdfenickjiiaa
