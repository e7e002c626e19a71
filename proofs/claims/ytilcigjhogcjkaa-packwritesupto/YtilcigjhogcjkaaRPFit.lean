/-
  What is proved here: tandemref10's in, half.
-/
import Derived.Test.YtilcigjhogcjkaaPKFit
namespace Go.Proofs.Ytilcigjhogcjkaa
open Go Go.RowKit

theorem rin_any (v l h : Int) (w : World) : Calls Try.prog 43 #[.int .i64 v, .int .i64 l, .int .i64 h] w fun e w' => e = .returned (.bool (decide (l ≤ v) && decide (v ≤ h))) ∧ w' = w := by
  by_cases h0 : l ≤ v
  · by_cases h1 : v ≤ h
    · go_enter Try.func43, Try.ntmps43
      go_wp2
      go_ret
      exact ⟨by simp [h0, h1], rfl⟩
    · go_enter Try.func43, Try.ntmps43
      go_wp2
      go_ret
      exact ⟨by simp [h1], rfl⟩
  · go_enter Try.func43, Try.ntmps43
    go_wp2
    go_ret
    exact ⟨by rw [show decide (l ≤ v) = false from decide_eq_false (by omega)]; rfl, rfl⟩
theorem rinN_any (v : Int) (w : World) : Calls Try.prog 43 #[.int .i64 v, .int .i64 0, .int .i64 1099511627776] w fun e w' => e = .returned (.bool (isNum v)) ∧ w' = w := rin_any v 0 1099511627776 w
theorem rhalf_any (v : Int) (w : World) : Calls Try.prog 44 #[.int .i64 v] w fun e w' => e = .returned (.bool (half v)) ∧ w' = w := by
  have H := hide (rin_any v (-549755813888) 549755813888 w)
  have E : Hid ((decide (-549755813888 ≤ v) && decide (v ≤ 549755813888)) = half v) := rfl
  rw [E.out] at H
  clear E
  go_enter Try.func44, Try.ntmps44
  go_wp2_with (go_at_call 43; refine H.out.mono ?_; rintro e w1 ⟨rfl, hw⟩; replace hw := hw.symm; subst hw)
  go_ret
  exact ⟨rfl, rfl⟩

end Go.Proofs.Ytilcigjhogcjkaa
