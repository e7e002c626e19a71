/-
  What is proved here: two canonical lists of one number are the same; the difference of two squares.
-/
import Derived.Test.YtpagphcioeefdaaDoorAwake
import Derived.Test.YtpagphcioeefdaaDoorUp0
import Derived.Test.YtpagphcioeefdaaDoorLaw1
namespace Go.Proofs.YtpagphcioeefdaaDoor
open Go Go.RowKit

theorem same_num (v u : Value) (n m : Nat) (f g : Nat → Nat) (w : World) (hv : Sl .u32 w v n f) (hu : Sl .u32 w u m g) (cf : Can 4294967296 f n) (cg : Can 4294967296 g m) (hs : num 4294967296 f n = num 4294967296 g m) :
    Calls Tryd.prog 15 #[v, u] w fun e w' => e = .returned (.bool true) ∧ Below w.heap.size w w' :=
  same_sl v u n m f g w hv hu (can_uniq (by decide) cf cg hs)

theorem squares {A B d x y : Nat} (h1 : d + B = A) (h2 : x + B * B = A * A) (h3 : y = (A + B) * d) : x = y := by
  subst h1 h3
  have e1 : (d + B) * (d + B) = d * d + d * B + (B * d + B * B) := by rw [Nat.add_mul, Nat.mul_add, Nat.mul_add]
  have e2 : (d + B + B) * d = d * d + B * d + B * d := by rw [Nat.add_mul, Nat.add_mul]
  have e3 : d * B = B * d := Nat.mul_comm _ _
  omega

end Go.Proofs.YtpagphcioeefdaaDoor
