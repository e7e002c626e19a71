/-
  What is proved here: small facts that let one call follow another: what could be read ahead of a call can be read behind it.
-/
import Derived.Test.YtfnlillhbkoeiaaDoorAwake
namespace Go.Proofs.YtfnlillhbkoeiaaDoor
open Go Go.RowKit

/-- Behind a call: nothing that was there has turned. -/
def Up (w w' : World) : Prop := Below w.heap.size w w'
theorem Up.tr {a b c : World} (h : Up a b) (k : Up b c) : Up a c := Below.trans h (Below.mono k (Below.size h))
theorem Up.refl (w : World) : Up w w := Below.refl _ _
theorem Sl.up {k : IntKind} {w w' : World} {v : Value} {n : Nat} {f : Nat → Nat} (h : Sl k w v n f) (u : Up w w') : Sl k w' v n f := h.below u (Nat.le_refl _)
theorem Own.up {k : IntKind} {E : TypeId} {w w' : World} {base : Nat} {v : Value} {n : Nat} {f : Nat → Nat} (h : Own k E w base v n f) (u : Up w w') : Own k E w' base v n f := h.below u (Nat.le_refl _)

theorem same_num (v u : Value) (n m : Nat) (f g : Nat → Nat) (w : World) (hv : Sl .u32 w v n f) (hu : Sl .u32 w u m g) (cf : Can 4294967296 f n) (cg : Can 4294967296 g m) (hs : num 4294967296 f n = num 4294967296 g m) :
    Calls Tryd.prog 15 #[v, u] w fun e w' => e = .returned (.bool true) ∧ Below w.heap.size w w' :=
  same_sl v u n m f g w hv hu (can_uniq (by decide) cf cg hs)

theorem squares {A B d x y : Nat} (h1 : d + B = A) (h2 : x + B * B = A * A) (h3 : y = (A + B) * d) : x = y := by
  subst h1 h3
  have e1 : (d + B) * (d + B) = d * d + d * B + (B * d + B * B) := by rw [Nat.add_mul, Nat.mul_add, Nat.mul_add]
  have e2 : (d + B + B) * d = d * d + B * d + B * d := by rw [Nat.add_mul, Nat.add_mul]
  have e3 : d * B = B * d := Nat.mul_comm _ _
  omega

end Go.Proofs.YtfnlillhbkoeiaaDoor
