/-
  What is proved here: tandemlaw00.Marked lays limbs with marks behind them in memory of their own; tandemlaw00.Back tells that they stand.
-/
import Derived.Test.YtpagphcioeefdaaDoorAdd
import Derived.Test.YtpagphcioeefdaaDoorUp0
import Derived.Maps.AppendAt
import Derived.BigQuiet
import Derived.Deep.QuietTactic
namespace Go.Proofs.YtpagphcioeefdaaDoor
open Go Go.RowKit

theorem up_drewN {w wr : World} (u : Up w wr) (n : Nat) : Up w (wr.drewN n) := ⟨u.os, u.tape, u.output, u.size, u.block⟩

/-- n limbs, and marks behind them. -/
def marks (f : Nat → Nat) (n : Nat) : Nat → Nat := fun i => if i < n then f i else 1001 + (i - n)

set_option maxRecDepth 4000 in
set_option maxHeartbeats 1000000 in
theorem marked_any (v : Value) (n : Nat) (f : Nat → Nat) (w : World) (hv : Sl .u32 w v n f) (hn : n ≤ 1000000000000) :
    Calls Tryd.prog 34 #[v] w fun e w' => ∃ g cap, e = .returned (.tuple #[.slice (some ⟨g, 0, none⟩) n cap, .slice (some ⟨g, 0, none⟩) (n + 40) cap]) ∧ w.heap.size ≤ g ∧ cap ≤ 9223372036854775807 ∧ RowAt .u32 41 w' g cap (n + 40) (marks f n) ∧ Up w w' := by
  obtain ⟨i, hi, hz0, hz1, hz2⟩ := info_parts infoU
  obtain ⟨ao, cap, rfl, h1, h2, h0, h3⟩ := hv
  go_enter Tryd.func34, Tryd.ntmps34
  go_wp2_with fail
  refine (copy_any _ _ _ f _ h3 h0 (by omega)).mono ?_
  rintro e w1 ⟨v1, rfl, o1, u1⟩
  replace u1 : Up w w1 := u1
  have o1' : Own .u32 41 w1 w.heap.size v1 n (marks f n) := by
    rcases o1 with ⟨h, h'⟩ | ⟨g, c, h, hb, hc, hr⟩
    · exact .inl ⟨h, h'⟩
    · exact .inr ⟨g, c, h, hb, hc, hr.congr (fun i hi => by unfold marks; rw [if_pos hi])⟩
  clear o1
  go_wp2_with fail
  go_loopw [4, 5] (fun u4 t5 wr => ∃ j : Nat, j ≤ 40 ∧ t5 = .int .i64 j ∧ Own .u32 41 wr w.heap.size u4 (n + j) (marks f n) ∧ Up w wr) (fun _ t5 _ => 40 - (intOf t5).toNat)
  case atStart => exact ⟨0, by omega, rfl, o1', u1⟩
  case round =>
    clear o1' u1
    obtain ⟨j, hj, rfl, hown, up⟩ := hrel
    have hsz := Below.size up
    by_cases hlt : j < 40
    · have hrow := hown.row
      have hwr : IntKind.u32.wrap (1001 + (j : Int)) = 1001 + (j : Int) := by
        simp only [IntKind.wrap, IntKind.bits, IntKind.signed]
        simp
        omega
      go_wp2_with (at_builtin; refine wpList_append_own _ rfl _ _ 22 rfl w.heap.size 41 i (.int .u32 0) 1 4 Tryd.underlying22 hi hz0 hz1 hz2 rfl (by decide) _ _ _ rfl (hrow.alloc _) ⟨wr.heap.size, 0, none⟩ 1 1 [.int .u32 (1001 + (j : Int))] rfl rfl (cells_one _ _ _) (fun u hu => by simp at hu; subst hu; rfl) (by unfold maxLen; omega) (by omega) (by simp; omega) ?_; intro v4 w4 hown4 hgrow4 hx4)
      have hown5 : Own .u32 41 w4 w.heap.size v4 (n + (j + 1)) (marks f n) := Own.of_row hown4 (fun x hx => by
        by_cases e : x = n + j
        · subst e
          rw [List.getElem?_append_right (by rw [cellsOf_length]; exact Nat.le_refl _), cellsOf_length]
          have : marks f n (n + j) = 1001 + j := by unfold marks; rw [if_neg (by omega), show n + j - n = j from by omega]
          rw [this]
          simp
        · rw [List.getElem?_append_left (by rw [cellsOf_length]; omega), cellsOf_get _ _ _ _ (by omega)])
      have hb4 : Up w w4 := (Below.alloc up hsz _).grown hgrow4 (by simp; omega) (fun k hk => (hrow.lt k hk).1)
      clear hrow hown hown4 hgrow4 up hx4
      go_wp2_with fail
      go_roundw
      case rel => exact ⟨j + 1, by omega, by go_num, hown5, hb4⟩
      case measure => simp [intOf]; omega
    · obtain rfl : j = 40 := by omega
      rcases hown with ⟨h, h'⟩ | ⟨g, c, rfl, hb, hc, hr⟩
      · omega
      have hle := hr.le
      go_wp2_with fail
      go_ret2
      exact ⟨g, c, rfl, hb, hc, hr, up⟩

set_option maxRecDepth 4000 in
set_option maxHeartbeats 800000 in
theorem back_any (v u : Value) (n : Nat) (f : Nat → Nat) (w : World) (hv : Sl .u32 w v n f) (hu : Sl .u32 w u (n + 40) (marks f n)) (hn : n ≤ 1000000000000) :
    Calls Tryd.prog 35 #[v, u] w fun e w' => e = .returned (.bool true) ∧ Up w w' := by
  obtain ⟨ao, cap, rfl, h1, h2, h0, h3⟩ := hv
  obtain ⟨bo, capb, rfl, q1, q2, q0, q3⟩ := hu
  clear h0 q0
  rcases q3 with q3 | ⟨b, off, rfl, hc⟩
  · omega
  have hne : (((n : Int) + 40) != ((n : Int) + 40)) = false := by simp
  go_enter Tryd.func35, Tryd.ntmps35
  go_wp2_with fail
  go_loopw [5] (fun t5 wr => ∃ i : Nat, i ≤ n + 40 ∧ t5 = .int .i64 i ∧ Up w wr) (fun t5 _ => n + 40 - (intOf t5).toNat)
  case atStart => exact ⟨0, by omega, rfl, Up.refl _⟩
  case round =>
    obtain ⟨i, hi, rfl, up⟩ := hrel
    by_cases hlt : i < n + 40
    · have hbl : b < w.heap.size := World.block_lt_of_cell? w _ (hc i hlt)
      have hx : wr.drew.cell? ⟨b, off + i, none⟩ = some (.int .u32 (marks f n i)) := (Below.cell up (p := ⟨b, off + i, none⟩) hbl).trans (hc i hlt)
      by_cases hin : i < n
      · rcases h3 with h3 | ⟨a, offa, rfl, ha⟩
        · omega
        have hal : a < w.heap.size := World.block_lt_of_cell? w _ (ha i hin)
        have hy : wr.drew.cell? ⟨a, offa + i, none⟩ = some (.int .u32 (f i)) := (Below.cell up (p := ⟨a, offa + i, none⟩) hal).trans (ha i hin)
        have hm : marks f n i = f i := by unfold marks; rw [if_pos hin]
        rw [hm] at hx
        clear hc ha hm
        generalize f i = x at *
        have hi1 : (i : Int) < (n : Int) := by omega
        have hi2 : decide (n ≤ i) = false := decide_eq_false (by omega)
        have hxx : ((x : Int) != (x : Int)) = false := by simp
        have hx2 : wr.cell? ⟨b, off + i, none⟩ = some (.int .u32 x) := hx
        have hy2 : wr.cell? ⟨a, offa + i, none⟩ = some (.int .u32 x) := hy
        go_wp2_with fail
        go_quiet (fail)
        go_wp2_with fail
        exact ⟨⟨i + 1, by omega, by go_num, up_drewN up nq⟩, by simp [intOf]; omega⟩
      · have hm : marks f n i = 1001 + (i - n) := by unfold marks; rw [if_neg hin]
        rw [hm] at hx
        clear hc hm
        have hi1 : decide (i < n) = false := decide_eq_false (by omega)
        have hi2 : (n : Int) ≤ (i : Int) := by omega
        have hw1 : IntKind.i64.wrap (1001 + (i : Int)) = 1001 + (i : Int) := by rw [IntKind.wrap_i64]; omega
        have hw2 : IntKind.i64.wrap (1001 + (i : Int) - (n : Int)) = ((1001 + (i - n) : Nat) : Int) := by rw [IntKind.wrap_i64]; omega
        have hw3 : IntKind.u32.wrap ((1001 + (i - n) : Nat) : Int) = ((1001 + (i - n) : Nat) : Int) := by
          simp only [IntKind.wrap, IntKind.bits, IntKind.signed]
          simp
          omega
        generalize 1001 + (i - n) = x at *
        have hxx : ((x : Int) != (x : Int)) = false := by simp
        have hx2 : wr.cell? ⟨b, off + i, none⟩ = some (.int .u32 x) := hx
        go_wp2_with fail
        go_quiet (fail)
        go_wp2_with fail
        exact ⟨⟨i + 1, by omega, by go_num, up_drewN up nq⟩, by simp [intOf]; omega⟩
    · go_wp2_with fail
      go_ret
      exact ⟨rfl, up⟩

end Go.Proofs.YtpagphcioeefdaaDoor
