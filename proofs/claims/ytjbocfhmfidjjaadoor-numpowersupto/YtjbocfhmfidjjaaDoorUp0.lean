/-
  What is proved here: small facts that let one call follow another: what could be read ahead of a call can be read behind it.
-/
import Derived.Test.YtjbocfhmfidjjaaDoorText
import Derived.Test.YtjbocfhmfidjjaaDoorTwo
namespace Go.Proofs.YtjbocfhmfidjjaaDoor
open Go Go.RowKit

/-- Behind a call: nothing that was there has turned. -/
def Up (w w' : World) : Prop := Below w.heap.size w w'
theorem Up.tr {a b c : World} (h : Up a b) (k : Up b c) : Up a c := Below.trans h (Below.mono k (Below.size h))
theorem Up.refl (w : World) : Up w w := Below.refl _ _
theorem Sl.up {k : IntKind} {w w' : World} {v : Value} {n : Nat} {f : Nat → Nat} (h : Sl k w v n f) (u : Up w w') : Sl k w' v n f := h.below u (Nat.le_refl _)
theorem Own.up {k : IntKind} {E : TypeId} {w w' : World} {base : Nat} {v : Value} {n : Nat} {f : Nat → Nat} (h : Own k E w base v n f) (u : Up w w') : Own k E w' base v n f := h.below u (Nat.le_refl _)

end Go.Proofs.YtjbocfhmfidjjaaDoor
