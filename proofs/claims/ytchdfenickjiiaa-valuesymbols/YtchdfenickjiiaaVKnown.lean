/-
  What is proved here: package value's known, as long as the heap was not collected behind the store's back.
-/
import Derived.Test.YtchdfenickjiiaaVNew
import Derived.BigQuiet
namespace Go.Proofs.Ytchdfenickjiiaa
open Go Go.RowKit

set_option maxRecDepth 20000 in
theorem known_same (w : World) (sb hb : Nat) (X : Nat → Prop) (vS : Value) (mb : Nat) (sz : Nat) (tm : Int) (n : Nat) (f : Nat → Nat) (st : Nat → Bool) (h : StoreAt w sb hb X vS mb tm sz tm n f st) :
    Calls Try.prog 46 #[.pointer (some ⟨sb, 0, none⟩)] w fun e w' => e = .returned (.pointer (some ⟨sb, 1, none⟩)) ∧ ∃ q, w' = w.drewN q := by
  have c0 := h.cells.1
  have c3 := h.cells.2.2.2
  have HH := hide h.H
  have hne : (tm != tm) = false := by simp
  clear h
  go_enter Try.func46, Try.ntmps46
  go_wp2
  go_quiet ((go_at_call 45; exact Calls.quiet_of_same (times_any _ hb X sz tm n f st (HH.out.drewN _))))
  go_wp2
  go_ret
  exact ⟨rfl, _, rfl⟩

end Go.Proofs.Ytchdfenickjiiaa
