/-
  What is proved here: num.divide by 0; num.isZero.
-/
import Derived.Test.YtkmpobmpencefaaDoorNDiv
namespace Go.Proofs.YtkmpobmpencefaaDoor
open Go Go.RowKit

theorem isZero_any (ao : Option Addr) (n cap : Nat) (w : World) : Calls Tryd.prog 65 #[.slice ao n cap] w fun e w' => e = .returned (.bool (decide (n = 0))) ∧ w' = w := by
  go_enter Tryd.func65, Tryd.ntmps65
  by_cases h : n = 0
  · subst h
    go_wp2
    go_ret
    exact ⟨by simp, rfl⟩
  · have h2 : ((n : Int) == 0) = false := by simp; omega
    go_wp2
    go_ret
    exact ⟨by simp [h], rfl⟩

set_option maxRecDepth 4000 in
set_option maxHeartbeats 2000000 in
theorem divide_zero (a u : Value) (ba bu : Bool) (n m : Nat) (f h : Nat → Nat) (w : World) (ha : Wk w a ba n f) (hu : Wk w u bu m h) (hz : num 4294967296 h m = 0) :
    Calls Tryd.prog 63 #[a, u] w fun e w' => e = .returned (.tuple #[.agg #[.slice none 0 0, .bool false], .agg #[.slice none 0 0, .bool false], .bool false]) ∧ Up w w' := by
  obtain ⟨v, rfl, hv⟩ := ha
  obtain ⟨v', rfl, hu⟩ := hu
  obtain ⟨ao, cap, rfl, -⟩ := id hv
  obtain ⟨ao', cap', rfl, -⟩ := id hu
  have U0 := ((((up_alloc w (.cells #[.slice ao n cap, .bool ba] 51)).tr (up_alloc _ (.cells #[.slice ao' m cap', .bool bu] 51))).tr (up_alloc _ (.cells #[.slice none 0 0, .bool false] 51))).tr (up_alloc _ (.cells #[.slice none 0 0, .bool false] 51)))
  have K := hide (four_blocks w (.cells #[.slice ao n cap, .bool ba] 51) (.cells #[.slice ao' m cap', .bool bu] 51) (.cells #[.slice none 0 0, .bool false] 51) (.cells #[.slice none 0 0, .bool false] 51))
  have HP := hide hz
  clear hz
  go_enter Tryd.func63, Tryd.ntmps63
  go_wp2_with fail
  refine (div_zero _ _ n m f h _ (hv.up U0) (hu.up U0) (unhide HP)).mono ?_
  rintro e w1 ⟨rfl, u1⟩
  replace u1 : Up _ w1 := u1
  have u1' : Up _ w1.drew := u1.tr (up_drew _)
  obtain ⟨x0, x1⟩ := drew2 (u1.blk (unhide K).1)
  obtain ⟨y0, y1⟩ := drew2 (u1.blk (unhide K).2.1)
  have HU := hide U0
  have hnil : ∀ W : World, Own .u32 64 W (w.heap.size + 4) (.slice none 0 0) 0 (fun _ => 0) := fun W => .inl ⟨rfl, rfl⟩
  have hcan : Can 4294967296 (fun _ => 0) 0 := ⟨fun i hi => by omega, .inl rfl⟩
  have HN := hide (And.intro hnil hcan)
  clear hv hu HP U0 hnil hcan
  go_wp2_with fail
  go_region_held3 (fun w' => w'.cell? ⟨w.heap.size, 1, none⟩ = some (.bool ba) ∧ w'.cell? ⟨w.heap.size + 1, 1, none⟩ = some (.bool bu)) (first | (go_keep; done) | exact ⟨keep2 (by omega) x1'', keep2 (by omega) y1''⟩ | exact ⟨keep2 (by omega) (keep2 (by omega) x1''), keep2 (by omega) (keep2 (by omega) y1'')⟩) (first
    | (go_at_call 59; have hh := u2'; clear hh; refine (numberOf_any none 0 0 (fun _ => 0) _ _ (.inl rfl) (Nat.le_refl _) (by omega)).mono ?_; rintro e w3 ⟨m3, hm3, rfl, u3, -⟩; obtain rfl : m3 = 0 := (by omega); have u3' := u2'.tr u3; obtain ⟨p0, p1, p2, p3, p4⟩ := cells2 (u3'.blk (unhide K).2.2.1); obtain ⟨q0, q1, q2, q3, q4⟩ := cells2 (u3'.blk (unhide K).2.2.2); obtain ⟨-, x1'', -⟩ := cells2 (u3'.blk (unhide K).1); obtain ⟨-, y1'', -⟩ := cells2 (u3'.blk (unhide K).2.1); obtain ⟨e0, e1⟩ := back2 (u3'.blk (unhide K).2.2.1); have E := back22 (g2 := w.heap.size + 1 + 1) (u3'.blk (unhide K).2.2.2) (by omega))
    | (go_at_call 59; refine (numberOf_any none 0 0 (fun _ => 0) _ _ (.inl rfl) (Nat.le_refl _) (by omega)).mono ?_; rintro e w2 ⟨m2, hm2, rfl, u2, -⟩; obtain rfl : m2 = 0 := (by omega); have u2' := u1'.tr u2; obtain ⟨x0', x1', -⟩ := cells2 (u2'.blk (unhide K).1); obtain ⟨y0', y1', -⟩ := cells2 (u2'.blk (unhide K).2.1)))
  all_goals go_wp2_with fail
  all_goals refine bodyPost_ret (by simp [results, Tryd.results63, go_sem, e0, e1, E]; rfl) rfl ?_
  all_goals exact ⟨by simp, Up.set2 (Up.set2 ((unhide HU).tr u3') (by omega)) (by omega)⟩

end Go.Proofs.YtkmpobmpencefaaDoor
