/-
  What is proved here: rows of feeds that are sorted are one row.
-/
import Derived.Test.YtcefeclgehijpaaFAll
import Derived.Test.YtcefeclgehijpaaFPur0
namespace Go.Proofs.Ytcefeclgehijpaa
open Go Go.RowKit

/-- Sorted strictly, the same feeds: the same row. -/
theorem sorted_uniq : ∀ {L L' : List Fd}, L.Pairwise ltF → L'.Pairwise ltF → L.Perm L' → L = L'
  | [], L', _, _, h => (List.nil_perm.1 h).symm
  | x :: L, [], _, _, h => (List.perm_nil.1 h)
  | x :: L, y :: L', h1, h2, h => by
    have hx := h.mem_iff.1 (List.mem_cons_self (a := x) (l := L))
    have hy := h.mem_iff.2 (List.mem_cons_self (a := y) (l := L'))
    have e : x = y := by
      rcases List.mem_cons.1 hx with e | hx
      · exact e
      · rcases List.mem_cons.1 hy with e | hy
        · exact e.symm
        · have a := (List.pairwise_cons.1 h1).1 y hy
          have b := (List.pairwise_cons.1 h2).1 x hx
          unfold ltF at a b
          omega
    subst e
    rw [sorted_uniq (List.pairwise_cons.1 h1).2 (List.pairwise_cons.1 h2).2 ((List.perm_cons x).1 h)]

end Go.Proofs.Ytcefeclgehijpaa
