/-
  What is proved here: worlds behind calls that turn nothing that was there.
-/
import Derived.Test.YtcefeclgehijpaaFAwake
namespace Go.Proofs.Ytcefeclgehijpaa
open Go Go.RowKit

/-- Behind a call: nothing that was there has turned. -/
def Up (w w' : World) : Prop := Below w.heap.size w w'
theorem Up.tr {a b c : World} (h : Up a b) (k : Up b c) : Up a c := Below.trans h (Below.mono k (Below.size h))
theorem Up.refl (w : World) : Up w w := Below.refl _ _
theorem up_alloc (w : World) (o : Obj) : Up w (w.alloc o) := (Below.refl _ _).alloc (Nat.le_refl _) _
theorem up_drew (w : World) : Up w w.drew := (Below.refl _ w).drew
theorem Up.cell {a b : World} (h : Up a b) {p : Addr} (hp : p.block < a.heap.size) : b.cell? p = a.cell? p := Below.cell h hp
theorem Fr.up {a b : World} (h : Fr (fun _ => False) a b) : Up a b := h.below (Nat.le_refl _) (fun _ _ e => e)
theorem Up.fr {a b : World} (h : Up a b) : Fr (fun _ => False) a b := ⟨h.os, h.tape, h.output, h.size, fun k hk _ => h.block k hk⟩

end Go.Proofs.Ytcefeclgehijpaa
