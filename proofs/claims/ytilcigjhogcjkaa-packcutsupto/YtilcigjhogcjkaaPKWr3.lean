/-
  What is proved here: pack.Write of any protos that lie there.
-/
import Derived.Test.YtilcigjhogcjkaaPKWr2
namespace Go.Proofs.Ytilcigjhogcjkaa
open Go Go.RowKit

/-- Bytes in a row of the call's own. -/
def ByAt (w : World) (B : Nat) (v : Value) (l : List Nat) : Prop := w.ownsRow B 5 1 v l.length (cL l)
/-- What Write comes to. -/
def WrEnd {N : Nat} (w : World) (ps : List (PC N)) (e : Ending) (w' : World) : Prop :=
  ∃ v, e = .returned (.tuple #[v, .int .i64 (if mayW ps then 0 else 1)]) ∧ ByAt w' w.heap.size v (if mayW ps then pgB ps else []) ∧ Fr (fun _ => False) w w'
theorem fw_new {w W w' : World} (h : FW w.heap.size W w') (k : Fr (fun _ => False) w W) : Fr (fun _ => False) w w' := Fr.trans (S := fun _ => False) k h.fr (fun x hx e => by omega)

set_option maxRecDepth 100000 in
set_option maxHeartbeats 1000000 in
theorem write_any {N : Nat} (w : World) (ps : List (PC N)) (v : Value) (hr : RowD w (PCell w) v ps) (hl : (pgB ps).length ≤ 1000000000) :
    Calls Try.prog 8 #[v] w fun e w' => WrEnd w ps e w' := by
  have HM := hide (mayBe_any w ps v hr)
  obtain ⟨ao, cap, rfl⟩ := hr.shape
  by_cases hm : mayW ps = true
  · have hg : ∀ p, p ∈ ps → goodP p = true := by
      unfold mayW at hm
      rw [Bool.and_eq_true] at hm
      exact List.all_eq_true.1 hm.1
    have HP := hide (fun (W : World) (wb : Nat) (hu : Up w W) (hw : WO w.heap.size W wb []) => wprogram_any w W wb ps _ hr hu hw hg hl)
    have HE : Hid (mayW ps = true) := hm
    rw [hm] at HM
    clear hm hg hr hl
    go_enter Try.func8, Try.ntmps8
    go_wp2_with (first
      | (go_at_call 18; refine HM.out.mono ?_; rintro e1 w1 ⟨rfl, F1⟩; have HF1 := hide (F1.alloc (.cells #[.slice none 0 0] 53)); have HZ : Hid (w.heap.size ≤ w1.heap.size) := hide F1.size; clear F1)
      | (go_at_call 19; refine (HP.out _ _ (HF1.out.upw') ⟨.slice none 0 0, heap_alloc_new w1 _, World.ownsRow_nil _ _ _ _, (fun e => by cases e), HZ.out⟩).mono ?_; rintro e2 w2 ⟨rfl, ⟨v2, hv2⟩, F2⟩; obtain ⟨a2, c2, ev2⟩ := hv2.shape; have y2 := hv2.cell; subst ev2; have HV := hide hv2.own; have HF2 := hide (fw_new F2 HF1.out); clear hv2 F2))
    go_ret2
    refine ⟨.slice a2 (pgB ps).length c2, ?_, ?_, HF2.out⟩
    · rw [HE.out]; rfl
    · rw [HE.out]; exact HV.out
  · have hm' : mayW ps = false := by simpa using hm
    have HE : Hid (mayW ps = false) := hm'
    rw [hm'] at HM
    clear hm hm' hr hl
    go_enter Try.func8, Try.ntmps8
    go_wp2_with (go_at_call 18; refine HM.out.mono ?_; rintro e1 w1 ⟨rfl, F1⟩; have HF1 := hide F1; clear F1)
    go_ret2
    refine ⟨.slice none 0 0, ?_, ?_, HF1.out⟩
    · rw [HE.out]; rfl
    · rw [HE.out]; exact World.ownsRow_nil _ _ _ _

end Go.Proofs.Ytilcigjhogcjkaa
