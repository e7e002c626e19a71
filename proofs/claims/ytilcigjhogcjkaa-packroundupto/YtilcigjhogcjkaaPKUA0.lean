/-
  What is proved here: tandemlaw00.SameLimbs and SameNum of two numbers that are the same.
-/
import Derived.Test.YtilcigjhogcjkaaPKOwnC
import Derived.Deep.RegionWith
import Derived.Deep.QuietTactic
import Derived.BigQuiet
namespace Go.Proofs.Ytilcigjhogcjkaa
open Go Go.RowKit
theorem up_drew (w : World) : Up w w.drew := ⟨rfl, rfl, rfl, Nat.le_refl _, fun _ _ => rfl⟩

set_option maxHeartbeats 400000 in
theorem sameLimbs_any (ao bo : Option Addr) (n capa capb : Nat) (f : Nat → Nat) (w : World) (ha : Rd .u32 w ao n f) (hb : Rd .u32 w bo n f) (hn : n ≤ 9223372036854775807) :
    Calls Try.prog 78 #[.slice ao n capa, .slice bo n capb] w fun e w' => e = .returned (.bool true) ∧ Up w w' := by
  by_cases h0 : n = 0
  · subst h0
    go_enter Try.func78, Try.ntmps78
    go_wp2
    refine wp_loop_rounds 1 ?_
    rw [rounds_succ]
    go_wp2
    go_ret
    exact ⟨rfl, Up.refl _⟩
  · rcases ha with ha | ⟨b, off, rfl, hca⟩
    · exact absurd ha h0
    rcases hb with hb | ⟨b', off', rfl, hcb⟩
    · exact absurd hb h0
    have hne : ((n : Int) != (n : Int)) = false := by simp
    go_enter Try.func78, Try.ntmps78
    go_wp2
    go_loopw [5] (fun t wr => ∃ k : Nat, k ≤ n ∧ t = .int .i64 k ∧ Up w wr) (fun t _ => n - (intOf t).toNat)
    case atStart => exact ⟨0, Nat.zero_le _, rfl, Up.refl _⟩
    case round =>
      obtain ⟨k, hk, rfl, hbel⟩ := hrel
      by_cases hlt : k < n
      · have hx := (hbel.cell (p := ⟨b, off + k, none⟩) (Rd.lt hca (by omega))).trans (hca k hlt)
        have hy := (hbel.cell (p := ⟨b', off' + k, none⟩) (Rd.lt hcb (by omega))).trans (hcb k hlt)
        generalize f k = x at *
        clear hca hcb
        have hb : ((x : Int) != (x : Int)) = false := by simp
        go_wp2
        go_region
        go_wp2
        refine ⟨⟨k + 1, by omega, by go_num, hbel.tr (up_drew _)⟩, ?_⟩
        simp [intOf]
        omega
      · clear hca hcb
        go_wp2
        go_ret
        exact ⟨rfl, hbel⟩

set_option maxRecDepth 4000 in
set_option maxHeartbeats 1000000 in
theorem sameNum_all (u v : Value) (b : Bool) (n : Nat) (f : Nat → Nat) (w : World) (hu : Sl .u32 w u n f) (hv : Sl .u32 w v n f) :
    Calls Try.prog 67 #[.agg #[.bool b, u], .agg #[.bool b, v]] w fun e w' => e = .returned (.bool true) ∧ Up w w' := by
  obtain ⟨ao, cap, rfl, -⟩ := id hu
  obtain ⟨ao', cap', rfl, -⟩ := id hv
  obtain ⟨h3, h1, h2⟩ := ((hu.up (below_alloc w (.cells #[.bool b, .slice ao n cap] 62))).up (below_alloc _ (.cells #[.bool b, .slice ao' n cap'] 62))).rd
  obtain ⟨g3, g1, g2⟩ := ((hv.up (below_alloc w (.cells #[.bool b, .slice ao n cap] 62))).up (below_alloc _ (.cells #[.bool b, .slice ao' n cap'] 62))).rd
  have KS := hide (sameLimbs_any ao ao' n cap cap' f _ h3 g3 (by omega))
  clear hu hv
  go_enter Try.func67, Try.ntmps67
  cases b <;>
  · go_wp2_with fail
    refine KS.out.mono ?_
    rintro e w1 ⟨rfl, u1⟩
    go_wp2_with fail
    go_ret
    exact ⟨rfl, ((up_alloc w _).tr (up_alloc _ _)).tr u1⟩

end Go.Proofs.Ytilcigjhogcjkaa
