/-
  What is proved here: the last calls by values that the statements of num against the document's answers want.
-/
import Derived.Test.YtjbocfhmfidjjaaDoorR2Small
namespace Go.Proofs.YtjbocfhmfidjjaaDoor
open Go Go.RowKit

theorem RdD.wide {X : Int} {M M' : Nat} {w : World} {a : Value} (h : RdD X M w a) (hM : M ≤ M') : RdD X M' w a := by
  obtain ⟨b, n, f, c, d, l, s⟩ := h
  exact ⟨b, n, f, c, d, by omega, s⟩
theorem small_rd {X : Int} {M : Nat} {w : World} {a : Value} (h : RdD X M w a) :
    Calls Tryd.prog 23 #[a] w fun e w' => e = .returned (.tuple #[.int .i64 (smallV X), .bool (smallB X)]) ∧ Up w w' := by
  obtain ⟨b, n, f, hn, d, l, s⟩ := h
  exact small_z a b n f X w hn d s

end Go.Proofs.YtjbocfhmfidjjaaDoor
