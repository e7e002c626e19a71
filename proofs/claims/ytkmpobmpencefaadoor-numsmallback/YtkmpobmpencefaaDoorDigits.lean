/-
  What is proved here: nat.appendGroup appends the nine decimal digits of a group to a row of bytes that is its own.
-/
import Derived.Test.YtkmpobmpencefaaDoorGroups
namespace Go.Proofs.YtkmpobmpencefaaDoor
open Go Go.RowKit

theorem infoB : (Tryd.prog.info? 5).map (fun i => (i.zero, i.size, i.bytes)) = some (some (.int .u8 0), 1, 1) := by kernel_rfl

/-- The i-th of nine decimal digits. -/
def dig9 (gr i : Nat) : Nat := gr / (100000000 / 10 ^ i) % 10
theorem dig9_le (gr i : Nat) : dig9 gr i ≤ 9 := by unfold dig9; omega
theorem dec_dig9 (gr : Nat) (h : gr < 1000000000) : dec (dig9 gr) 9 = gr := by
  simp only [dec, dig9]
  simp only [Nat.reducePow, Nat.reduceDiv]
  omega
theorem unit_step (i : Nat) : 100000000 / 10 ^ i / 10 = 100000000 / 10 ^ (i + 1) := by
  rw [Nat.div_div_eq_div_mul, Nat.pow_succ]
theorem unit_pos (i : Nat) (h : i < 9) : 1 ≤ 100000000 / 10 ^ i ∧ 100000000 / 10 ^ i ≤ 100000000 := by
  refine ⟨?_, Nat.div_le_self _ _⟩
  rw [Nat.le_div_iff_mul_le (Nat.pos_of_ne_zero (by simp)), Nat.one_mul]
  exact Nat.le_trans (Nat.pow_le_pow_right (by decide) (show i ≤ 8 by omega)) (by decide)

/-- t behind, s ahead from place n on. -/
def glue (t s : Nat → Nat) (n : Nat) : Nat → Nat := fun i => if i < n then t i else s (i - n)
theorem glue_lo {t s : Nat → Nat} {n i : Nat} (h : i < n) : glue t s n i = t i := by simp [glue, h]
theorem glue_hi {t s : Nat → Nat} {n i : Nat} : glue t s n (n + i) = s i := by simp [glue]; intro h; omega

set_option maxRecDepth 4000 in
set_option maxHeartbeats 1000000 in
theorem appendGroup_any (base : Nat) (v : Value) (n gr : Nat) (t : Nat → Nat) (w : World) (hv : Own .u8 5 w base v n t) (hgr : gr < 4294967296) (hn : n + 9 ≤ 140737488355328) (hbase : base ≤ w.heap.size) :
    Calls Tryd.prog 114 #[v, .int .u32 gr] w fun e w' => ∃ v', e = .returned v' ∧ Own .u8 5 w' base v' (n + 9) (glue t (fun i => 48 + dig9 gr i) n) ∧ Below base w w' := by
  obtain ⟨i, hi, hz0, hz1, hz2⟩ := info_parts infoB
  go_enter Tryd.func114, Tryd.ntmps114
  go_wp2_with fail
  go_loopw [0, 5] (fun u0 t5 wr => ∃ j : Nat, j ≤ 9 ∧ t5 = .int .u32 (100000000 / 10 ^ j : Nat) ∧ Own .u8 5 wr base u0 (n + j) (glue t (fun i => 48 + dig9 gr i) n) ∧ Below base w wr ∧ base ≤ wr.heap.size) (fun u0 _ _ => n + 9 - lenOf u0)
  case atStart => exact ⟨0, by omega, rfl, by
    rcases hv with ⟨h, h'⟩ | ⟨g, cap, h, h1, h2, h3⟩
    · exact .inl ⟨h, h'⟩
    · exact .inr ⟨g, cap, h, h1, h2, h3.congr (fun i hi => (glue_lo hi).symm)⟩, Below.refl _ _, hbase⟩
  case round =>
    obtain ⟨j, hj, rfl, hown, hbel, hsz⟩ := hrel
    by_cases hj9 : j < 9
    · obtain ⟨hu1, hu2⟩ := unit_pos j hj9
      have hrow := hown.row
      have HU := hide (unit_step j)
      have HQ := hide (show dig9 gr j = gr / (100000000 / 10 ^ j) % 10 from rfl)
      generalize 100000000 / 10 ^ j = un at *
      have hq : (gr : Int) / (un : Int) = ((gr / un : Nat) : Int) := by simp
      have hql : gr / un ≤ gr := Nat.div_le_self _ _
      generalize gr / un = q at *
      go_wp2_with (at_builtin; refine wpList_append_own _ rfl _ _ 104 rfl base 5 i (.int .u8 0) 1 1 Tryd.underlying104 hi hz0 hz1 hz2 rfl (by decide) _ _ _ rfl (hrow.alloc _) ⟨wr.heap.size, 0, none⟩ 1 1 [.int .u8 (48 + (q : Int) % 10)] rfl rfl (cells_one _ _ _) (fun u hu => by simp at hu; subst hu; rfl) (by unfold maxLen; omega) (by omega) (by simp; omega) ?_; intro v4 w4 hown4 hgrow4 hx4)
      have hown5 : Own .u8 5 w4 base v4 (n + (j + 1)) (glue t (fun i => 48 + dig9 gr i) n) := Own.of_row hown4 (fun k hk => by
        by_cases e : k = n + j
        · subst e
          rw [glue_hi, unhide HQ, List.getElem?_append_right (by rw [cellsOf_length]; exact Nat.le_refl _), cellsOf_length]
          simp
        · rw [List.getElem?_append_left (by rw [cellsOf_length]; omega), cellsOf_get _ _ _ _ (by omega)])
      have hb4 : Below base w w4 := (hbel.alloc hsz _).grown hgrow4 (by simp; omega) (fun k hk => (hrow.lt k hk).1)
      have hsz4 : base ≤ w4.heap.size := by have := hgrow4.size; simp at this; omega
      have hlen : lenOf v4 = n + (j + 1) := by
        rcases hown5 with ⟨h, h'⟩ | ⟨g, cp, h, _⟩
        · omega
        · rw [h]; rfl
      have hlen0 : lenOf u0 = n + j := by
        rcases hown with ⟨h, h'⟩ | ⟨g, cp, h, _⟩
        · rw [h, h']; rfl
        · rw [h]; rfl
      have HL := hide hlen
      have HL0 := hide hlen0
      clear hrow hown hown4 hgrow4 hbel hlen hlen0 hx4
      go_wp2_with fail
      go_roundw
      case rel => exact ⟨j + 1, by omega, by rw [← unhide HU]; go_num, hown5, hb4, hsz4⟩
      case measure => rw [unhide HL, unhide HL0]; omega
    · obtain rfl : j = 9 := by omega
      go_wp2_with fail
      go_ret
      exact ⟨_, rfl, hown, hbel⟩

end Go.Proofs.YtkmpobmpencefaaDoor
