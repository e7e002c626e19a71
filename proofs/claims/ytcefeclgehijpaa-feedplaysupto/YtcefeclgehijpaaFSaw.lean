/-
  What is proved here: saw (package feed).
-/
import Derived.Test.YtcefeclgehijpaaFSort
namespace Go.Proofs.Ytcefeclgehijpaa
open Go Go.RowKit

set_option maxRecDepth 20000 in
set_option maxHeartbeats 4000000 in
theorem saw_any (w : World) (a : Nat) (p c m k n : Int) (h : PB w a (.int .i64 p) (.int .i64 c) (.int .i64 m) (.int .i64 k) (.int .i64 n)) :
    Calls Try.prog 27 #[.pointer (some ⟨a, 0, none⟩)] w fun e w' => e = .returned (.bool (!decide (m = 0 ∧ k = -1))) ∧ Fr (fun _ => False) w w' := by
  obtain ⟨r, hr⟩ : ∃ r, r = !decide (m = 0 ∧ k = -1) := ⟨_, rfl⟩
  rw [← hr]
  have hne : ∀ W, (binOp .neq 37 (.agg #[.int .i64 p, .int .i64 c, .int .i64 m, .int .i64 k]) (.agg #[.int .i64 p, .int .i64 c, .int .i64 0, .int .i64 (-1)])).run Try.prog W = .ok (.bool r) W := by
    intro W
    rw [neq_feed, hr]
    simp
  have HR := hide hr
  have c0 := h.k0
  have c1 := h.k1
  have c2 := h.k2
  have c3 := h.k3
  have HP := hide h
  have K1 := hide (fun W => unseen_any W p c)
  clear h hr
  go_enter Try.func27, Try.ntmps27
  go_wp2_with fail
  go_region_held3 (fun w' => w'.cell? ⟨a, 0, none⟩ = some (.int .i64 p) ∧ w'.cell? ⟨a, 1, none⟩ = some (.int .i64 c) ∧ w'.cell? ⟨a, 2, none⟩ = some (.int .i64 m) ∧ w'.cell? ⟨a, 3, none⟩ = some (.int .i64 k)) (go_keep)
    (first
    | (go_at_call 24; refine (K1.out _).mono ?_; rintro e1 w1 ⟨rfl, F1⟩; unfold fdV; have b1 : PB w1 a _ _ _ _ _ := (F1.block _ (lt_of_block HP.out) (fun e => e)).trans HP.out; have y0 := b1.k0; have y1 := b1.k1; have y2 := b1.k2; have y3 := b1.k3; have HF1 := hide F1; clear F1 b1))
  go_wp2_with fail
  go_ret
  exact ⟨rfl, (Fr.refl _ _).drew.trans HF1.out (fun _ _ e => e)⟩

end Go.Proofs.Ytcefeclgehijpaa
