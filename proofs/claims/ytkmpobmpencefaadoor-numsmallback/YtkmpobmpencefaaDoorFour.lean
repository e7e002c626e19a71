/-
  What is proved here: strconv.AppendUint appends the one decimal digit of 4.
-/
import Derived.Test.YtkmpobmpencefaaDoorDigits
import Derived.Lib.AppendStr
namespace Go.Proofs.YtkmpobmpencefaaDoor
open Go Go.RowKit

/-- What strconv.AppendUint is asked for: the decimal digits of u, appended to a row of bytes of one's own. -/
def AppOk (u : Nat) : Prop := ∀ (base : Nat) (v : Value) (n : Nat) (t : Nat → Nat) (w : World), Own .u8 5 w base v n t → n + 20 ≤ 140737488355328 → base ≤ w.heap.size →
    Calls Tryd.prog 113 #[v, .int .u64 u, .int .i64 10] w fun e w' => ∃ v' L d, e = .returned v' ∧ Own .u8 5 w' base v' (n + L) (glue t (fun i => 48 + d i) n) ∧ Below base w w' ∧ (∀ i, i < L → d i ≤ 9) ∧ 1 ≤ L ∧ L ≤ 20 ∧ d 0 ≠ 0 ∧ dec d L = u

set_option maxRecDepth 4000 in
set_option maxHeartbeats 400000 in
theorem small_four (w : World) : Calls Tryd.prog 129 #[.int .i64 4] w fun e w' => e = .returned (.string ⟨#[52]⟩) ∧ w' = w := by
  go_enter Tryd.func129, Tryd.ntmps129
  go_wp2
  go_ret
  refine ⟨?_, rfl⟩
  first | rfl | decide | kernel_rfl

theorem size_52 : (⟨#[52]⟩ : ByteArray).size = 1 := rfl
theorem cells_52 : Lib.strCells ⟨#[52]⟩ = [.int .u8 52] := rfl

set_option maxRecDepth 4000 in
set_option maxHeartbeats 1000000 in
theorem app_four_in (base : Nat) (v : Value) (n : Nat) (t : Nat → Nat) (w : World) (hv : Own .u8 5 w base v n t) (hn : n + 20 ≤ 140737488355328) (hbase : base ≤ w.heap.size) :
    Calls Tryd.prog 126 #[v, .int .u64 4, .int .i64 10] w fun e w' => ∃ v', e = .returned v' ∧ Own .u8 5 w' base v' (n + 1) (glue t (fun _ => 52) n) ∧ Below base w w' := by
  obtain ⟨i, hi, hz0, hz1, hz2⟩ := info_parts infoB
  have hrow := hv.row
  go_enter Tryd.func126, Tryd.ntmps126
  go_wp2_with (first
    | (go_at_call 129; refine (small_four _).mono ?_; rintro e w' ⟨rfl, rfl⟩)
    | (at_builtin; refine Lib.wpList_append_own_string _ rfl _ _ 104 9 rfl base 5 i Tryd.underlying104 Tryd.underlying9 hi hz0 hz1 hz2 _ _ _ rfl hrow ⟨#[52]⟩ rfl (by rw [size_52]; unfold maxLen; omega) (by rw [size_52]; omega) hbase ?_; intro v' w1 hown hgrow hx))
  go_ret
  rw [size_52, cells_52] at hown
  refine ⟨v', rfl, Own.of_row hown (fun k hk => ?_), (Below.refl _ _).grown hgrow hbase (fun k hk => (hrow.lt k hk).1)⟩
  by_cases e : k = n
  · subst e
    have : glue t (fun _ => 52) k k = 52 := by simp [glue]
    rw [this, List.getElem?_append_right (by rw [cellsOf_length]; exact Nat.le_refl _), cellsOf_length]
    simp
  · rw [List.getElem?_append_left (by rw [cellsOf_length]; omega), cellsOf_get _ _ _ _ (by omega), glue_lo (by omega)]

theorem app_four : AppOk 4 := by
  intro base v n t w hv hn hbase
  go_enter Tryd.func113, Tryd.ntmps113
  go_wp2_with (go_at_call 126; refine (app_four_in base v n t _ hv hn hbase).mono ?_; rintro e w' ⟨v', rfl, ho, hb⟩)
  go_ret
  exact ⟨v', 1, fun _ => 4, rfl, ho, hb, fun i hi => (show 4 ≤ 9 by decide), by omega, by omega, by decide, by simp [dec]⟩

end Go.Proofs.YtkmpobmpencefaaDoor
