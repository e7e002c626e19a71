/-
  What is proved here: tandemlaw10.PackApart of any protos and numbers that come in.
-/
import Derived.Test.YtilcigjhogcjkaaLPAp1
namespace Go.Proofs.Ytilcigjhogcjkaa
open Go Go.RowKit

theorem packApart_top {N : Nat} (W : World) (ps : List (PC N)) (v : Value) (hr : RowD W (PCellN W) v ps) (hB : (ps.map pbk).sum + 1 ≤ 1048576) (what : Int) (hw1 : -9223372036854775808 ≤ what) (hw2 : what ≤ 9223372036854775807) (at' : Int) (ha1 : -9223372036854775808 ≤ at') (ha2 : at' ≤ 9223372036854775807) (vv : Int) (hv1 : -9223372036854775808 ≤ vv) (hv2 : vv ≤ 9223372036854775807) :
    Calls Try.prog 7 #[v, .int .i64 what, .int .i64 at', .int .i64 vv] W fun e w' => e = .returned (.bool true) ∧ Fr (fun _ => False) W w' := by
  cases hm : mayW ps with
  | false => exact apart_early W ps v what at' vv hr hB (.inl hm)
  | true =>
    by_cases h0 : ps.length = 0
    · exact apart_early W ps v what at' vv hr hB (.inr h0)
    · have hb2 := (bulk_parts hB).2
      obtain ⟨j, hj, P1⟩ := place_some at' ps.length (by omega) (by omega) ha1 ha2
      obtain ⟨c, hc, P2⟩ := place_some what 6 (by decide) (by decide) hw1 hw2
      obtain ⟨k, hk, P3⟩ := place_some vv 300 (by decide) (by decide) hv1 hv2
      have hcs : c = 0 ∨ c = 1 ∨ c = 2 ∨ c = 3 ∨ c = 4 ∨ c = 5 := by omega
      rcases hcs with rfl | rfl | rfl | rfl | rfl | rfl
      · exact apart_0 W ps v what at' vv hr hB hm j k hj hk P1 P2 P3
      · exact apart_1 W ps v what at' vv hr hB hm j k hj hk P1 P2 P3
      · exact apart_2 W ps v what at' vv hr hB hm j k hj hk P1 P2 P3
      · exact apart_3 W ps v what at' vv hr hB hm j k hj hk P1 P2 P3
      · exact apart_4 W ps v what at' vv hr hB hm j k hj hk P1 P2 P3
      · exact apart_5 W ps v what at' vv hr hB hm j k hj hk P1 P2 P3

end Go.Proofs.Ytilcigjhogcjkaa
