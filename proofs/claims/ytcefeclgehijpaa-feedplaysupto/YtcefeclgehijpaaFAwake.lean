/-
  What is proved here: tandemlaw14.awake.
-/
import Derived.Test.YtcefeclgehijpaaFSee
import Derived.Test.YtcefeclgehijpaaFAt
namespace Go.Proofs.Ytcefeclgehijpaa
open Go Go.RowKit

theorem mk_aw : mk (fun i => if i = 0 then 1 else 2) 2 = 6 := by decide
theorem or_aw : orI 0 6 = 6 := by decide

set_option maxRecDepth 20000 in
set_option maxHeartbeats 4000000 in
theorem awake_any (w : World) : Calls Try.prog 21 #[] w fun e w' => e = .returned (.bool true) ∧ Fr (fun _ => False) w w' := by
  have K1 := hide (new_any w)
  go_enter Try.func21, Try.ntmps21
  go_wp2_with (first | (go_at_call 7; refine K1.out.mono ?_; rintro e1 w1 ⟨t, r, rfl, A1, F1, h1, h2⟩; have HA1 := hide A1; have HF1 := hide F1; clear A1 F1))
  have hrow : IRow (w1.alloc (.cells #[.int .i64 1, .int .i64 2] 3)) (some ⟨w1.heap.size, 0, none⟩) 2 (fun i => if i = 0 then 1 else 2) := .inr ⟨_, _, rfl, fun i hi => by
    rw [cell_of_row _ _ _ _ _ _ (heap_alloc_new w1 _)]
    rcases (show i = 0 ∨ i = 1 by omega) with rfl | rfl <;> rfl⟩
  refine (see_any _ t r 0 [] (HA1.out.same ((Fr.refl _ _).alloc _)) 0 3 _ 2 2 _ (by omega) hrow).mono ?_
  rintro e2 w2 ⟨rfl, T2, c2, A2, F2, g2, e2⟩
  have hT2 : T2.map PL.pm = [⟨0, 3, 6, -1, 0⟩] := by
    rw [e2, mk_aw]
    simp [addS, insS, or_aw, jc]
    decide
  obtain ⟨x, rfl, hx⟩ := List.map_eq_singleton_iff.1 hT2
  have hp : x.e.p = 0 := congrArg PM.p hx
  have hc : x.e.c = 3 := congrArg PM.c hx
  have hm : x.m = 6 := congrArg PM.m hx
  have hk : x.k = -1 := congrArg PM.k hx
  have K3 := at_some w2 t r c2 [x] A2 0 3 0 x (by simp) (by simp [fnd, hp, hc])
  rw [hp, hc, hm, hk] at K3
  have hF2 : Fr (fun _ => False) w w2 := by
    have q : Fr (fun _ => False) w (w1.alloc (.cells #[.int .i64 1, .int .i64 2] 3)) := HF1.out.alloc _
    refine q.trans F2 (fun k hk hf => ?_)
    rcases hf with e | e | ⟨z, hz, _⟩
    · omega
    · omega
    · cases hz
  have HK3 := hide K3
  have HF2 := hide hF2
  clear hT2 hx hp hc hm hk K3 hF2 e2 g2 F2 A2 hrow
  go_wp2_with (first | (go_at_call 16; refine HK3.out.mono ?_; rintro e3 w3 ⟨rfl, F3⟩; unfold fdV; have HF3 := hide F3; clear F3))
  go_ret
  exact ⟨rfl, HF2.out.trans HF3.out (fun _ _ e => e)⟩

end Go.Proofs.Ytcefeclgehijpaa
