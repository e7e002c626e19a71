/-
  What is proved here: tandemlaw00's SameLimbs, SameNum, Same and SameAll of data of fixnums. tandemlaw00's SameAll of two lists of fixnums' data.
-/
import Derived.Test.YtenkidbimhmkbaaVTakL
import Derived.Deep.RegionHeld3
namespace Go.Proofs.Ytenkidbimhmkbaa
open Go Go.RowKit

/-- Limb i of a whole number. -/
def limbZ (z : Int) (i : Nat) : Nat := if i = 0 then z.natAbs % 4294967296 else z.natAbs / 4294967296
theorem Limbs.cell {w : World} {L : Nat} {z : Int} (h : Limbs w L z) {i : Nat} (hi : i < 2) : w.cell? ⟨L, i, none⟩ = some (.int .u32 (limbZ z i : Int)) := by
  rw [cell_of_row w L i _ _ _ h]
  rcases (show i = 0 ∨ i = 1 by omega) with e | e <;> subst e <;> rfl
theorem lenZ_le (z : Int) : lenZ z ≤ 2 := by
  unfold lenZ len2
  split <;> (try split) <;> omega

set_option maxHeartbeats 1000000 in
theorem sameLimbs_z (L M : Nat) (z : Int) (n : Nat) (hn : n ≤ 2) (w : World) (ha : ∀ i, i < n → w.cell? ⟨L, i, none⟩ = some (.int .u32 (limbZ z i : Int))) (hb : ∀ i, i < n → w.cell? ⟨M, i, none⟩ = some (.int .u32 (limbZ z i : Int))) :
    Calls Try.prog 72 #[.slice (some ⟨L, 0, none⟩) n 2, .slice (some ⟨M, 0, none⟩) n 2] w fun e w' => e = .returned (.bool true) ∧ Fr (fun _ => False) w w' := by
  have hne : ((n : Int) != (n : Int)) = false := by simp
  have HA := hide ha
  have HB := hide hb
  clear ha hb
  go_enter Try.func72, Try.ntmps72
  go_wp2
  go_loopw [5] (fun t wr => ∃ k : Nat, k ≤ n ∧ t = .int .i64 k ∧ Fr (fun _ => False) w wr) (fun t _ => n - (intOf t).toNat)
  case atStart => exact ⟨0, Nat.zero_le _, rfl, Fr.refl _ _⟩
  case round =>
    obtain ⟨k, hk, rfl, hF⟩ := hrel
    by_cases hlt : k < n
    · have hx := (hF.cell (World.block_lt_of_cell? _ _ (HA.out k hlt)) (fun e => e)).trans (HA.out k hlt)
      have hy := (hF.cell (World.block_lt_of_cell? _ _ (HB.out k hlt)) (fun e => e)).trans (HB.out k hlt)
      generalize limbZ z k = x at *
      have hb : ((x : Int) != (x : Int)) = false := by simp
      have HF := hide hF
      clear hF
      go_wp2
      go_region
      all_goals go_wp2
      all_goals go_roundw
      case rel => exact ⟨k + 1, by omega, by go_num, HF.out.drew⟩
      case measure => simp [intOf]; omega
    · have HF := hide hF
      clear hF
      go_wp2
      go_ret
      exact ⟨rfl, HF.out⟩

set_option maxRecDepth 20000 in
set_option maxHeartbeats 2000000 in
theorem sameNum_z (L M : Nat) (z : Int) (w : World) (ha : Limbs w L z) (hb : Limbs w M z) :
    Calls Try.prog 28 #[.agg #[.bool (decide (z < 0)), .slice (some ⟨L, 0, none⟩) (lenZ z) 2], .agg #[.bool (decide (z < 0)), .slice (some ⟨M, 0, none⟩) (lenZ z) 2]] w fun e w' => e = .returned (.bool true) ∧ Fr (fun _ => False) w w' := by
  have KS := fun (w1 : World) (F : Fr (fun _ => False) w w1) => sameLimbs_z L M z (lenZ z) (lenZ_le z) w1 (fun i hi => (F.cell (World.block_lt_of_cell? _ _ (ha.cell (i := i) (by have := lenZ_le z; omega))) (fun e => e)).trans (ha.cell (by have := lenZ_le z; omega))) (fun i hi => (F.cell (World.block_lt_of_cell? _ _ (hb.cell (i := i) (by have := lenZ_le z; omega))) (fun e => e)).trans (hb.cell (by have := lenZ_le z; omega)))
  have HS := hide KS
  have hbb : ((decide (z < 0) : Bool) == (decide (z < 0) : Bool)) = true := by simp
  clear KS ha hb
  generalize decide (z < 0) = b at *
  generalize lenZ z = l at *
  go_enter Try.func28, Try.ntmps28
  go_wp2_with (go_at_call 72; refine (HS.out _ (((Fr.refl _ w).alloc _).alloc _)).mono ?_; rintro e w2 ⟨rfl, F2⟩; have HF2 : Hid (Fr (fun _ => False) w w2) := hide (Fr.trans (((Fr.refl _ w).alloc _).alloc _) F2 (fun _ _ e => e)); clear F2)
  go_ret
  exact ⟨rfl, HF2.out⟩

/-- The datum of a fixnum, as a value. -/
def intD (z : Int) (L : Nat) : Value := .agg #[.int .i64 1, .int .i64 0, .bool (decide (z < 0)), .slice (some ⟨L, 0, none⟩) (lenZ z) 2, .string ⟨#[]⟩, .slice none 0 0, .slice none 0 0]

set_option maxRecDepth 20000 in
set_option maxHeartbeats 2000000 in
theorem sameAll_none (w : World) :
    Calls Try.prog 37 #[.slice none 0 0, .slice none 0 0] w fun e w' => e = .returned (.bool true) ∧ w' = w := by
  go_enter Try.func37, Try.ntmps37
  go_wp2
  refine wp_loop_rounds 1 ?_
  rw [rounds_succ]
  go_wp2
  go_ret
  exact ⟨rfl, rfl⟩

set_option maxRecDepth 20000 in
set_option maxHeartbeats 4000000 in
theorem same_z (L M : Nat) (z : Int) (w : World) (ha : Limbs w L z) (hb : Limbs w M z) :
    Calls Try.prog 79 #[intD z L, intD z M] w fun e w' => e = .returned (.bool true) ∧ Fr (fun _ => False) w w' := by
  have KS := fun (w1 : World) (F : Fr (fun _ => False) w w1) => sameNum_z L M z w1 ((F.block _ (Array.getElem?_eq_some_iff.1 ha).1 (fun e => e)).trans ha) ((F.block _ (Array.getElem?_eq_some_iff.1 hb).1 (fun e => e)).trans hb)
  have HS := hide KS
  clear KS ha hb
  unfold intD
  generalize decide (z < 0) = b at *
  generalize lenZ z = l at *
  obtain ⟨W1, hW1⟩ : ∃ W1, W1 = (w.alloc (.cells #[.int .i64 1, .int .i64 0, .bool b, .slice (some ⟨L, 0, none⟩) l 2, .string ⟨#[]⟩, .slice none 0 0, .slice none 0 0] 73)).alloc (.cells #[.int .i64 1, .int .i64 0, .bool b, .slice (some ⟨M, 0, none⟩) l 2, .string ⟨#[]⟩, .slice none 0 0, .slice none 0 0] 73) := ⟨_, rfl⟩
  have F1 : Fr (fun _ => False) w W1 := by rw [hW1]; exact ((Fr.refl _ w).alloc _).alloc _
  have B0 : W1.heap[w.heap.size]? = some (.cells #[.int .i64 1, .int .i64 0, .bool b, .slice (some ⟨L, 0, none⟩) l 2, .string ⟨#[]⟩, .slice none 0 0, .slice none 0 0] 73 (0, 0)) := by
    rw [hW1]
    exact (heap_alloc_old _ _ (r := w.heap.size) (by simp)).trans (heap_alloc_new w _)
  have B1 : W1.heap[w.heap.size + 1]? = some (.cells #[.int .i64 1, .int .i64 0, .bool b, .slice (some ⟨M, 0, none⟩) l 2, .string ⟨#[]⟩, .slice none 0 0, .slice none 0 0] 73 (0, 0)) := by
    rw [hW1]
    have := heap_alloc_new (w.alloc (.cells #[.int .i64 1, .int .i64 0, .bool b, .slice (some ⟨L, 0, none⟩) l 2, .string ⟨#[]⟩, .slice none 0 0, .slice none 0 0] 73)) (.cells #[.int .i64 1, .int .i64 0, .bool b, .slice (some ⟨M, 0, none⟩) l 2, .string ⟨#[]⟩, .slice none 0 0, .slice none 0 0] 73)
    rw [World.size_alloc] at this
    exact this
  have HB0 := hide B0
  have HB1 := hide B1
  have HF1 := hide F1
  have HW1 := hide hW1
  clear B0 B1 F1 hW1
  go_enter Try.func79, Try.ntmps79
  go_wp2_with (first
    | (go_at_call 28; rw [← HW1.out]; refine (HS.out _ HF1.out).mono ?_; rintro e w2 ⟨rfl, F2⟩; have b0 := (F2.block _ (Array.getElem?_eq_some_iff.1 HB0.out).1 (fun e => e)).trans HB0.out; have b1 := (F2.block _ (Array.getElem?_eq_some_iff.1 HB1.out).1 (fun e => e)).trans HB1.out; have g5 := (cells7 b0).2.2.2.2.2.1; have g6 := (cells7 b0).2.2.2.2.2.2; have k5 := (cells7 b1).2.2.2.2.2.1; have k6 := (cells7 b1).2.2.2.2.2.2; have HF2 := hide (Fr.trans HF1.out F2 (fun _ _ e => e)); clear F2 b0 b1)
    | (go_at_call 37; refine (sameAll_none _).mono ?_; rintro e w3 ⟨rfl, hw⟩; replace hw := hw.symm; subst hw))
  go_ret
  exact ⟨rfl, HF2.out⟩

/-- The cells of the datum k of a list of data. -/
def DatC (w : World) (g k L : Nat) (bz : Bool) (lz : Nat) : Prop := w.cell? ⟨g, k * 7, none⟩ = some (.int .i64 1) ∧ w.cell? ⟨g, k * 7 + 1, none⟩ = some (.int .i64 0) ∧ w.cell? ⟨g, k * 7 + 2, none⟩ = some (.bool bz) ∧ w.cell? ⟨g, k * 7 + 3, none⟩ = some (.slice (some ⟨L, 0, none⟩) lz 2) ∧ w.cell? ⟨g, k * 7 + 4, none⟩ = some (.string ⟨#[]⟩) ∧ w.cell? ⟨g, k * 7 + 5, none⟩ = some (.slice none 0 0) ∧ w.cell? ⟨g, k * 7 + 6, none⟩ = some (.slice none 0 0)
theorem DatC.fr {w w1 : World} {g k L : Nat} {bz : Bool} {lz : Nat} (h : DatC w g k L bz lz) (F : Fr (fun _ => False) w w1) : DatC w1 g k L bz lz := by
  obtain ⟨c0, c1, c2, c3, c4, c5, c6⟩ := h
  have hl := World.block_lt_of_cell? _ _ c0
  exact ⟨(F.cell hl (fun e => e)).trans c0, (F.cell hl (fun e => e)).trans c1, (F.cell hl (fun e => e)).trans c2, (F.cell hl (fun e => e)).trans c3, (F.cell hl (fun e => e)).trans c4, (F.cell hl (fun e => e)).trans c5, (F.cell hl (fun e => e)).trans c6⟩
theorem Items.at_ {w0 w : World} {g K cap : Nat} {z : Nat → Int} (h : Items w0 w (.slice (some ⟨g, 0, none⟩) K cap) K z) {k : Nat} (hk : k < K) : ∃ L, Limbs w L (z k) ∧ DatC w g k L (decide (z k < 0)) (lenZ (z k)) := by
  obtain ⟨Ls, h1, h2⟩ := h
  rcases h1.2 with ⟨e, _⟩ | ⟨g', cap', cur, e1, e2, e3, e4, e5, e6, e7⟩
  · cases e
  cases e1
  have hc : ∀ j, j < 7 → w.cell? ⟨g, k * 7 + j, none⟩ = (intC (z k) (Ls k))[j]? := fun j hj => by
    rw [cell_of_row w g (k * 7 + j) _ _ _ e3, ← itemsC_get z Ls K k hk j hj, ← e7, List.getElem?_take_of_lt (by omega), show 7 * k + j = k * 7 + j by omega]
    simp
  exact ⟨Ls k, (h2 k hk).1, hc 0 (by decide), hc 1 (by decide), hc 2 (by decide), hc 3 (by decide), hc 4 (by decide), hc 5 (by decide), hc 6 (by decide)⟩

set_option maxRecDepth 20000 in
set_option maxHeartbeats 8000000 in
theorem sameAll_z (w w0 w0' : World) (v v' : Value) (K : Nat) (z : Nat → Int) (ha : Items w0 w v K z) (hb : Items w0' w v' K z) (hK : K ≤ 100) :
    Calls Try.prog 37 #[v, v'] w fun e w' => e = .returned (.bool true) ∧ Fr (fun _ => False) w w' := by
  by_cases h0 : K = 0
  · subst h0
    have e1 : v = .slice none 0 0 ∨ ∃ g cap, v = .slice (some ⟨g, 0, none⟩) 0 cap := by
      obtain ⟨_, h1, _⟩ := ha
      rcases h1.2 with ⟨e, _⟩ | ⟨g, cap, cur, e, _⟩
      · exact .inl e
      · exact .inr ⟨g, cap, e⟩
    have e2 : v' = .slice none 0 0 ∨ ∃ g cap, v' = .slice (some ⟨g, 0, none⟩) 0 cap := by
      obtain ⟨_, h1, _⟩ := hb
      rcases h1.2 with ⟨e, _⟩ | ⟨g, cap, cur, e, _⟩
      · exact .inl e
      · exact .inr ⟨g, cap, e⟩
    obtain ⟨ao, ca, rfl⟩ := ha.shape
    obtain ⟨bo, cb, rfl⟩ := hb.shape
    clear ha hb e1 e2
    go_enter Try.func37, Try.ntmps37
    go_wp2
    refine wp_loop_rounds 1 ?_
    rw [rounds_succ]
    go_wp2
    go_ret
    exact ⟨rfl, Fr.refl _ _⟩
  · obtain ⟨g, ca, rfl⟩ : ∃ g cap, v = .slice (some ⟨g, 0, none⟩) K cap := by
      obtain ⟨_, h1, _⟩ := ha
      rcases h1.2 with ⟨_, e⟩ | ⟨g, cap, cur, e, _⟩
      · exact absurd e h0
      · exact ⟨g, cap, e⟩
    obtain ⟨g', cb, rfl⟩ : ∃ g cap, v' = .slice (some ⟨g, 0, none⟩) K cap := by
      obtain ⟨_, h1, _⟩ := hb
      rcases h1.2 with ⟨_, e⟩ | ⟨g, cap, cur, e, _⟩
      · exact absurd e h0
      · exact ⟨g, cap, e⟩
    have hne : ((K : Int) != (K : Int)) = false := by simp
    have HA := hide ha
    have HB := hide hb
    clear ha hb
    go_enter Try.func37, Try.ntmps37
    go_wp2
    go_loopw [5] (fun t wr => ∃ k : Nat, k ≤ K ∧ t = .int .i64 k ∧ Fr (fun _ => False) w wr) (fun t _ => K - (intOf t).toNat)
    case atStart => exact ⟨0, Nat.zero_le _, rfl, Fr.refl _ _⟩
    case round =>
      obtain ⟨k, hk, rfl, hF⟩ := hrel
      by_cases hlt : k < K
      · obtain ⟨L, hL, hc⟩ := HA.out.at_ hlt
        obtain ⟨M, hM, hd⟩ := HB.out.at_ hlt
        have hc := hc.fr hF
        have hd := hd.fr hF
        have KS := fun (w1 : World) (F : Fr (fun _ => False) w w1) => same_z L M (z k) w1 ((F.block _ (Array.getElem?_eq_some_iff.1 hL).1 (fun e => e)).trans hL) ((F.block _ (Array.getElem?_eq_some_iff.1 hM).1 (fun e => e)).trans hM)
        unfold intD at KS
        generalize decide (z k < 0) = bz at *
        generalize lenZ (z k) = lz at *
        have HC := hide hc
        have HD := hide hd
        obtain ⟨c0, c1, c2, c3, c4, c5, c6⟩ := hc
        obtain ⟨d0, d1, d2, d3, d4, d5, d6⟩ := hd
        have HF := hide hF
        have HS := hide KS
        have hlI : (k : Int) < (K : Int) := by omega
        clear hF KS hL hM
        go_wp2
        go_region_held3 (fun w' => w'.cell? ⟨g, k * 7, none⟩ = some (.int .i64 1) ∧ w'.cell? ⟨g, k * 7 + 1, none⟩ = some (.int .i64 0) ∧ w'.cell? ⟨g, k * 7 + 2, none⟩ = some (.bool bz) ∧ w'.cell? ⟨g, k * 7 + 3, none⟩ = some (.slice (some ⟨L, 0, none⟩) lz 2) ∧ w'.cell? ⟨g, k * 7 + 4, none⟩ = some (.string ⟨#[]⟩) ∧ w'.cell? ⟨g, k * 7 + 5, none⟩ = some (.slice none 0 0) ∧ w'.cell? ⟨g, k * 7 + 6, none⟩ = some (.slice none 0 0) ∧ w'.cell? ⟨g', k * 7, none⟩ = some (.int .i64 1) ∧ w'.cell? ⟨g', k * 7 + 1, none⟩ = some (.int .i64 0) ∧ w'.cell? ⟨g', k * 7 + 2, none⟩ = some (.bool bz) ∧ w'.cell? ⟨g', k * 7 + 3, none⟩ = some (.slice (some ⟨M, 0, none⟩) lz 2) ∧ w'.cell? ⟨g', k * 7 + 4, none⟩ = some (.string ⟨#[]⟩) ∧ w'.cell? ⟨g', k * 7 + 5, none⟩ = some (.slice none 0 0) ∧ w'.cell? ⟨g', k * 7 + 6, none⟩ = some (.slice none 0 0)) (go_keep)
          ((go_at_call 79; refine (HS.out _ ?_).mono ?_; exact HF.out.like rfl rfl rfl rfl; rintro e w2 ⟨rfl, F2⟩; have F2' : Fr (fun _ => False) wr w2 := ⟨F2.os, F2.tape, F2.output, F2.size, F2.block⟩; obtain ⟨e0, e1, e2, e3, e4, e5, e6⟩ := HC.out.fr F2'; obtain ⟨f0, f1, f2, f3, f4, f5, f6⟩ := HD.out.fr F2'; have HF2 := hide (Fr.trans HF.out F2' (fun _ _ e => e)); clear F2 F2'))
        all_goals go_wp2
        all_goals go_roundw
        case rel => exact ⟨k + 1, by omega, by go_num, HF2.out⟩
        case measure => simp [intOf]; omega
      · have HF := hide hF
        clear hF
        go_wp2
        go_ret
        exact ⟨rfl, HF.out⟩

end Go.Proofs.Ytenkidbimhmkbaa
