/-
  What is proved here: tandemlaw10.PackWrites of any protos that lie there, given right of any datum.
-/
import Derived.Test.YtilcigjhogcjkaaRPRight
import Derived.Test.YtilcigjhogcjkaaRPWr
import Derived.Test.YtilcigjhogcjkaaPKCopyC
import Derived.Test.YtilcigjhogcjkaaPKAwake
namespace Go.Proofs.Ytilcigjhogcjkaa
open Go Go.RowKit

set_option maxRecDepth 20000 in
set_option maxHeartbeats 2000000 in
theorem packWrites_of {N : Nat} (hC : RTOK N) (w : World) (ps : List (PC N)) (v : Value) (hr : RowD w (PCellN w) v ps) (hl : (pgB ps).length ≤ 900000000) (hb : ∀ p, p ∈ ps → p.code.length ≤ 10000000 ∧ p.ns.length ≤ 10000000 ∧ (p.ks.map (bk N)).sum ≤ 10000000) (h3 : ps.length ≤ 10000000) :
    Calls Try.prog 3 #[v] w fun e w' => e = .returned (.bool true) ∧ Fr (fun _ => False) w w' := by
  have hr2 : RowD w (PCell w) v ps := hr.mono (fun _ _ h => h.1)
  have HKC := hide (copyP_any w ps v hr hb h3)
  obtain ⟨ao, cap, rfl⟩ := hr2.shape
  obtain ⟨q, hq⟩ : ∃ q : Int, q = (if mayW ps then 0 else 1) := ⟨_, rfl⟩
  obtain ⟨T, hT⟩ : ∃ T, T = (if mayW ps then pgB ps else []) := ⟨_, rfl⟩
  have HKW := hide (fun (W : World) (v' : Value) (h : RowD W (PCell W) v' ps) => show Calls Try.prog 8 #[v'] W fun e w' => ∃ (a : Option Addr) (c : Nat), e = .returned (.tuple #[.slice a T.length c, .int .i64 q]) ∧ ByAt w' W.heap.size (.slice a T.length c) T ∧ Fr (fun _ => False) W w' from (write_any W ps v' h (by omega)).mono (by
    rintro e w' ⟨v2, rfl, hb2, F2⟩
    rw [← hT] at hb2
    obtain ⟨a, c, rfl⟩ : ∃ a c, v2 = .slice a T.length c := by
      rcases hb2.2 with ⟨e, e0⟩ | ⟨g, cap, cur, e, _⟩
      · exact ⟨none, 0, by rw [e, e0]⟩
      · exact ⟨_, _, e⟩
    exact ⟨a, c, by rw [hq], hb2, F2⟩))
  have HKR := hide (fun (W : World) (F : Fr (fun _ => False) w W) => show Calls Try.prog 10 #[.slice ao ps.length cap] W fun e w' => ∃ (a : Option Addr) (c : Nat), e = .returned (.tuple #[.slice a T.length c, .int .i64 q]) ∧ ByAt w' W.heap.size (.slice a T.length c) T ∧ Fr (fun _ => False) W w' from (rwrite_of W ps _ (hr2.up F.upw' (fun _ _ h => h.up F.upw')) hl (rright_of hC W ps _ (hr2.up F.upw' (fun _ _ h => h.up F.upw')) hl)).mono (by
    rintro e w' ⟨v2, rfl, hb2, F2⟩
    rw [← hT] at hb2
    obtain ⟨a, c, rfl⟩ : ∃ a c, v2 = .slice a T.length c := by
      rcases hb2.2 with ⟨e, e0⟩ | ⟨g, cap, cur, e, _⟩
      · exact ⟨none, 0, by rw [e, e0]⟩
      · exact ⟨_, _, e⟩
    exact ⟨a, c, by rw [hq], hb2, F2⟩))
  have HKA := hide (fun (W : World) => awake_any W)
  clear hr hr2 hq hT hl hb h3 hC
  go_enter Try.func3, Try.ntmps3
  go_wp2_with (first
    | (go_at_call 9; refine HKC.out.mono ?_; rintro e1 w1 ⟨v1, rfl, hP1, F1⟩; have HP1 := hide hP1; have HF1 := hide F1; clear hP1 F1)
    | (go_at_call 8; refine (HKW.out _ _ HP1.out).mono ?_; rintro e2 w2 ⟨a2, c2, rfl, hb2, F2⟩; have HB2 := hide hb2; have HF2 := hide (HF1.out.trans F2 (fun _ _ e => e)); clear F2 hb2)
    | (go_at_call 10; refine (HKR.out _ HF2.out).mono ?_; rintro e3 w3 ⟨a3, c3, rfl, hb3, F3⟩; have HB3 := hide hb3; have HB4 := hide (HB2.out.fr F3); have HF3 := hide (HF2.out.trans F3 (fun _ _ e => e)); clear F3 hb3)
    | (go_at_call 11; refine (sameBy_any _ _ _ _ _ T HB4.out HB3.out).mono ?_; rintro e5 w5 ⟨rfl, hw⟩; replace hw := hw.symm; subst hw)
    | (go_at_call 12; refine (HKA.out _).mono ?_; rintro e4 w4 ⟨rfl, F4⟩; have HF4 := hide (HF3.out.trans F4 (fun _ _ e => e)); clear F4))
  go_ret
  exact ⟨rfl, HF4.out⟩

end Go.Proofs.Ytilcigjhogcjkaa
