/-
  What is proved here: package value's Name of a symbol.
-/
import Derived.Test.YtchdfenickjiiaaVTakeT2
namespace Go.Proofs.Ytchdfenickjiiaa
open Go Go.RowKit

set_option maxRecDepth 20000 in
set_option maxHeartbeats 4000000 in
theorem name_yes (w : World) (sb hb : Nat) (X : Nat → Prop) (sz : Nat) (tm : Int) (n : Nat) (f : Nat → Nat) (st : Nat → Bool) (x t : Nat) (g : Nat → Nat) (len : Nat) (h : HeapAt w hb X sz tm n f st) (hS : w.cell? ⟨sb, 0, none⟩ = some (.pointer (some ⟨hb, 0, none⟩))) (hx : x < 18446744073709551616) (ht : t < 18446744073709551616) (hk : shapeB (headOf f st x) 4 1 0 = true) (hf : fieldAt f st x 0 = t) (tx : TextAt f st t g len) :
    Calls Try.prog 19 #[.pointer (some ⟨sb, 0, none⟩), .int .u64 (x : Int)] w fun e w' => e = .returned (.tuple #[.string (strG g len), .bool true]) ∧ Fr (fun _ => False) w w' := by
  have KS := shape_any w sb hb X sz tm n f st x 4 1 0 h hS hx
  rw [hk] at KS
  have KF := fun q => vfield_any (w.drewN q) sb hb X sz tm n f st x 0 (h.drewN q) hS hx
  rw [hf] at KF
  have KB := fun q => bytes_yes (w.drewN q) sb hb X sz tm n f st t g len (h.drewN q) hS ht tx
  have HS := hide KS
  have HF := hide KF
  have HB := hide KB
  clear KS KF KB h hS tx hk hf
  go_enter Try.func19, Try.ntmps19
  go_wp2_with (first
    | (go_at_call 58; refine HS.out.mono ?_; rintro e w1 ⟨rfl, q1, rfl⟩)
    | (go_at_call 59; refine (HF.out _).mono ?_; rintro e w2 ⟨rfl, q2, hq2⟩; replace hq2 : w2 = w.drewN (q1 + q2) := (by rw [hq2]; simp); subst hq2)
    | (go_at_call 39; refine (HB.out _).mono ?_; rintro e w3 ⟨v, rfl, O3, ⟨b, cap, rfl, hbc⟩, F3⟩; have kc := conv_own (cap := cap) (Own.cells8 O3); have HF3 : Hid (Fr (fun _ => False) w w3) := hide (Fr.trans ((Fr.refl _ w).drewN _) F3 (fun _ _ e => e)); clear O3 F3))
  go_ret2
  exact ⟨rfl, HF3.out⟩

end Go.Proofs.Ytchdfenickjiiaa
