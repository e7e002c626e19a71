/-
  What is proved here: tandemlaw01.c hands back the limbs that it was handed, in new memory; tandemlaw01.same tells that two lists are the same.
-/
import Derived.Test.YtpagphcioeefdaaDoorAdd
namespace Go.Proofs.YtpagphcioeefdaaDoor
open Go Go.RowKit

set_option maxHeartbeats 400000 in
theorem c_any (v : Value) (n : Nat) (f : Nat → Nat) (w : World) (h : Sl .u32 w v n f) (hn : 4 * n ≤ 140737488355328) :
    Calls Tryd.prog 14 #[v] w fun e w' => ∃ v, e = .returned v ∧ Own .u32 41 w' w.heap.size v n f ∧ Below w.heap.size w w' := by
  obtain ⟨ao, cap, rfl, h1, h2, h0, h3⟩ := h
  go_enter Tryd.func14, Tryd.ntmps14
  go_wp2_with (go_at_call 36; refine (copy_any _ _ _ f _ h3 h0 hn).mono ?_; rintro e w' ⟨v, rfl, ho, hb⟩)
  go_ret
  exact ⟨v, rfl, ho, hb⟩

set_option maxHeartbeats 400000 in
theorem same_sl (v u : Value) (n m : Nat) (f g : Nat → Nat) (w : World) (hv : Sl .u32 w v n f) (hu : Sl .u32 w u m g) (hs : n = m ∧ ∀ i, i < n → f i = g i) :
    Calls Tryd.prog 15 #[v, u] w fun e w' => e = .returned (.bool true) ∧ Below w.heap.size w w' := by
  obtain ⟨ao, cap, rfl, h1, h2, h0, h3⟩ := hv
  obtain ⟨bo, capb, rfl, g1, g2, g0, g3⟩ := hu
  have HS := hide hs
  clear hs
  go_enter Tryd.func15, Tryd.ntmps15
  go_wp2_with (go_at_call 37; refine (same_any _ _ _ _ _ _ f g _ h3 g3 (by omega) (by omega) (unhide HS)).mono ?_; rintro e w' ⟨rfl, hb⟩)
  go_ret
  exact ⟨rfl, hb⟩

end Go.Proofs.YtpagphcioeefdaaDoor
