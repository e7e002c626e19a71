/-
  What is proved here: the document's own trim, half, full, at and add, as plain arithmetic on limbs of 16 bits.
-/
import Derived.Test.YtdiacbfdfoeemaaDoorRefMath
import Derived.Test.YtdiacbfdfoeemaaDoorAdd
import Derived.Test.YtdiacbfdfoeemaaDoorParse
import Derived.Deep.RegionHeld3
import Derived.Deep.AppendLies
namespace Go.Proofs.YtdiacbfdfoeemaaDoor
open Go Go.RowKit

set_option maxRecDepth 4000 in
set_option maxHeartbeats 1000000 in
theorem rtrim_hid (v : Value) (n : Nat) (f : Nat → Nat) (w : World) (hv : Sl .i64 w v n f) (hn : 8 * n ≤ 140737488355328) :
    Calls Tryd.prog 86 #[v] w fun e w' => Hid (∃ m v', e = .returned v' ∧ Own .i64 3 w' w.heap.size v' m f ∧ Below w.heap.size w w' ∧ m ≤ n ∧ (∀ i, m ≤ i → i < n → f i = 0) ∧ (m = 0 ∨ f (m - 1) ≠ 0)) := by
  obtain ⟨i, hi, hz0, hz1, hz2⟩ := info_parts infoI
  have hnil := World.ownsRow_nil w w.heap.size 3 1
  obtain ⟨ao, cap, rfl, h1, h2, h0, h3⟩ := hv
  by_cases hn0 : n = 0
  · subst hn0
    cases ao with
    | none =>
      obtain rfl := h0 rfl
      go_enter Tryd.func86, Tryd.ntmps86
      go_wp2
      refine wp_loop_rounds 1 ?_
      rw [rounds_succ]
      go_wp2_with (at_builtin; refine wpList_append_own_none rfl _ _ 88 rfl w.heap.size 3 i 1 Tryd.underlying88 hi _ _ _ rfl hnil rfl ?_)
      go_ret
      exact hide ⟨0, _, rfl, .inl ⟨rfl, rfl⟩, Below.refl _ _, Nat.le_refl _, fun i _ hi => by omega, .inl rfl⟩
    | some ad =>
      go_enter Tryd.func86, Tryd.ntmps86
      go_wp2
      refine wp_loop_rounds 1 ?_
      rw [rounds_succ]
      go_wp2_with (at_builtin; refine wpList_append_own _ rfl _ _ 88 rfl w.heap.size 3 i (.int .i64 0) 1 8 Tryd.underlying88 hi hz0 hz1 hz2 rfl (by decide) _ _ _ rfl hnil ad 0 _ [] rfl rfl (fun j u hj => by simp at hj) (fun u hu => by simp at hu) (by unfold maxLen; omega) (by omega) (Nat.le_refl _) ?_; intro v' w1 hown hgrow hx; simp only [Nat.zero_add, List.nil_append] at hown)
      go_ret
      refine hide ⟨0, v', rfl, Own.of_row hown (fun j hj => by omega), Below.of_grown hgrow, ?_⟩
      simp
  · rcases h3 with h3 | ⟨b, off, rfl, hc⟩
    · exact absurd h3 hn0
    go_enter Tryd.func86, Tryd.ntmps86
    go_wp2
    go_loop [3] (fun t => ∃ k : Nat, k ≤ n ∧ t = .int .i64 k ∧ ∀ i, k ≤ i → i < n → f i = 0) (fun t => (intOf t).toNat)
    case atStart => exact ⟨n, Nat.le_refl _, rfl, fun i h1 h2 => by omega⟩
    case round =>
      obtain ⟨k, hk, rfl, hz⟩ := hrel
      have hcs := cellsOf_length .i64 f k
      have hcl := cellsOf_read (n := k) (fun i hi => hc i (by omega))
      by_cases hk0 : 0 < k
      · have hx := hc (k - 1) (by omega)
        clear hc
        by_cases he : f (k - 1) = 0
        · have HE : Hid (f (k - 1) = 0) := he
          rw [he] at hx
          clear he
          go_wp2_with fail
          go_round
          case rel => exact ⟨k - 1, by omega, by go_num, fun i h1 h2 => by
            by_cases e : i = k - 1
            · rw [e]; exact HE.out
            · exact hz i (by omega) h2⟩
          case measure => simp [intOf]; omega
        · have hb : ((f (k - 1) : Int) == 0) = false := by simp; omega
          have HE := hide he
          generalize f (k - 1) = y at hx hb
          clear he
          go_wp2_with (at_builtin; refine wpList_append_own _ rfl _ _ 88 rfl w.heap.size 3 i (.int .i64 0) 1 8 Tryd.underlying88 hi hz0 hz1 hz2 rfl (by decide) _ _ _ rfl hnil ⟨b, off, none⟩ k _ (cellsOf .i64 f k) rfl (by rw [hcs]; omega) hcl (cellsOf_one _ _ _) (by unfold maxLen; omega) (by omega) (Nat.le_refl _) ?_; intro v' w1 hown hgrow hx'; simp only [Nat.zero_add, List.nil_append] at hown)
          go_ret
          exact hide ⟨k, v', rfl, Own.of_row hown (fun j hj => cellsOf_get _ _ _ _ hj), Below.of_grown hgrow, hk, hz, .inr (unhide HE)⟩
      · have e0 : k = 0 := by omega
        subst e0
        go_wp2_with (at_builtin; refine wpList_append_own _ rfl _ _ 88 rfl w.heap.size 3 i (.int .i64 0) 1 8 Tryd.underlying88 hi hz0 hz1 hz2 rfl (by decide) _ _ _ rfl hnil ⟨b, off, none⟩ 0 _ [] rfl rfl (fun j u hj => by simp at hj) (fun u hu => by simp at hu) (by unfold maxLen; omega) (by omega) (Nat.le_refl _) ?_; intro v' w1 hown hgrow hx'; simp only [Nat.zero_add, List.nil_append] at hown)
        go_ret
        exact hide ⟨0, v', rfl, Own.of_row hown (fun j hj => by omega), Below.of_grown hgrow, by omega, hz, .inl rfl⟩

theorem rtrim_any (v : Value) (n : Nat) (f : Nat → Nat) (w : World) (hv : Sl .i64 w v n f) (hn : 8 * n ≤ 140737488355328) :
    Calls Tryd.prog 86 #[v] w fun e w' => ∃ m v', e = .returned v' ∧ Own .i64 3 w' w.heap.size v' m f ∧ Below w.heap.size w w' ∧ m ≤ n ∧ (∀ i, m ≤ i → i < n → f i = 0) ∧ (m = 0 ∨ f (m - 1) ≠ 0) :=
  (rtrim_hid v n f w hv hn).mono fun _ _ h => unhide h

set_option maxRecDepth 4000 in
set_option maxHeartbeats 400000 in
theorem at_any (v : Value) (n i : Nat) (f : Nat → Nat) (w : World) (hv : Sl .i64 w v n f) (hi : i ≤ 9223372036854775807) :
    Calls Tryd.prog 106 #[v, .int .i64 i] w fun e w' => e = .returned (.int .i64 (cut f n i : Nat)) ∧ w' = w := by
  obtain ⟨ao, cap, rfl, h1, h2, h0, h3⟩ := hv
  by_cases hlt : i < n
  · rcases h3 with h3 | ⟨b, off, rfl, hc⟩
    · omega
    have hx := hc i hlt
    rw [cut_in hlt]
    clear hc
    go_enter Tryd.func106, Tryd.ntmps106
    go_wp2
    go_ret
    exact ⟨rfl, rfl⟩
  · rw [cut_out (by omega)]
    go_enter Tryd.func106, Tryd.ntmps106
    go_wp2
    go_ret
    exact ⟨rfl, rfl⟩

set_option maxRecDepth 4000 in
set_option maxHeartbeats 2000000 in
theorem radd_any (v u : Value) (n m : Nat) (f g : Nat → Nat) (w : World) (hv : Sl .i64 w v n f) (hu : Sl .i64 w u m g) (hf : ∀ i, i < n → f i < 65536) (hg : ∀ i, i < m → g i < 65536) (hn : n ≤ 1000000000000) (hm : m ≤ 1000000000000) :
    Calls Tryd.prog 96 #[v, u] w fun e w' => ∃ n' f' v', e = .returned v' ∧ Own .i64 3 w' w.heap.size v' n' f' ∧ Below w.heap.size w w' ∧ Can 65536 f' n' ∧ (n' ≤ n + 1 ∨ n' ≤ m + 1) ∧ num 65536 f' n' = num 65536 f n + num 65536 g m := by
  obtain ⟨i, hi, hz0, hz1, hz2⟩ := info_parts infoI
  obtain ⟨ao, cap, ev, -⟩ := id hv
  obtain ⟨bo, capb, eu, -⟩ := id hu
  subst ev eu
  have cf : ∀ i, cut f n i < 65536 := fun i => by by_cases h : i < n; rw [cut_in h]; exact hf i h; rw [cut_out (by omega)]; decide
  have cg : ∀ i, cut g m i < 65536 := fun i => by by_cases h : i < m; rw [cut_in h]; exact hg i h; rw [cut_out (by omega)]; decide
  go_enter Tryd.func96, Tryd.ntmps96
  go_wp2_with fail
  go_loopw [5, 6, 7] (fun u5 t6 t7 wr => ∃ (k c : Nat) (S : Nat → Nat), (k ≤ n ∨ k ≤ m) ∧ t7 = .int .i64 k ∧ t6 = .int .i64 c ∧ Own .i64 3 wr w.heap.size u5 k S ∧ Below w.heap.size w wr ∧ SumRel 65536 (cut f n) (cut g m) S k c) (fun _ _ t7 _ => n + m - (intOf t7).toNat)
  case atStart => exact ⟨0, 0, fun _ => 0, .inl (by omega), rfl, rfl, .inl ⟨rfl, rfl⟩, Below.refl _ _, ⟨by omega, fun i hi => by omega, by simp [num]⟩⟩
  case round =>
    obtain ⟨k, c, S, hk, rfl, rfl, hown, hbel, hrl⟩ := hrel
    have hrow := hown.row
    have hsz := hbel.size
    have hc1 : c ≤ 1 := hrl.1
    have hvr := hv.below hbel (Nat.le_refl _)
    have hur := hu.below hbel (Nat.le_refl _)
    by_cases hlt : k < n ∨ k < m
    · have hx := cf k
      have hy := cg k
      have HS := hide (hrl.step (by decide) rfl rfl hx hy)
      have hguard : (decide (k < n) || decide (k < m)) = true := by simp; exact hlt
      clear hrl cf cg hf hg
      have hend : ∀ (v4 : Value) (w4 : World), w4.ownsRow w.heap.size 3 1 v4 (k + 1) (cellsOf .i64 S k ++ [Value.int .i64 ((cut f n k + cut g m k + c) % 65536 : Nat)]) → Own .i64 3 w4 w.heap.size v4 (k + 1) (upd S k ((cut f n k + cut g m k + c) % 65536)) := fun v4 w4 h => own_push h
      have HEND := hide hend
      have HA := hide (fun (w' : World) (h : Sl .i64 w' (Value.slice ao n cap) n f) => at_any _ n k f w' h (by omega))
      have HB := hide (fun (w' : World) (h : Sl .i64 w' (Value.slice bo m capb) m g) => at_any _ m k g w' h (by omega))
      clear hend
      generalize cut f n k = x at *
      generalize cut g m k = y at *
      have hpush : (((x : Int) + (y : Int) + (c : Int)) % 65536) = (((x + y + c) % 65536 : Nat) : Int) := by omega
      have HP := hide hpush
      clear hpush
      by_cases hkn : k < n
      all_goals
        go_wp2_with fail
        refine (unhide HA _ hvr).mono ?_
        rintro e w' ⟨rfl, rfl⟩
        go_wp2_with fail
        refine (unhide HB _ hur).mono ?_
        rintro e w' ⟨rfl, rfl⟩
        go_wp2_with (at_builtin; refine wpList_append_own _ rfl _ _ 88 rfl w.heap.size 3 i (.int .i64 0) 1 8 Tryd.underlying88 hi hz0 hz1 hz2 rfl (by decide) _ _ _ rfl (hrow.alloc _) ⟨w'.heap.size, 0, none⟩ 1 1 [.int .i64 (((x : Int) + (y : Int) + (c : Int)) % 65536)] rfl rfl (cells_one _ _ _) (fun u hu => by simp at hu; subst hu; rfl) (by unfold maxLen; omega) (by omega) (by simp; omega) ?_; intro v4 w4 hown4 hgrow4 hx4; rw [unhide HP] at hown4; have ho5 := unhide HEND v4 w4 hown4; have hb5 := (hbel.alloc (by omega) _).grown hgrow4 (by simp; omega) (fun j hj => (hrow.lt j hj).1); clear hown4 hgrow4 hx4 hrow hown)
        go_roundw
        case rel => exact ⟨k + 1, _, _, by omega, by go_num, by go_num, ho5, hb5, unhide HS⟩
        case measure => simp [intOf]; omega
    · have e1 : num 65536 (cut f n) k = num 65536 f n := num_cut (by omega)
      have e2 : num 65536 (cut g m) k = num 65536 g m := num_cut (by omega)
      obtain ⟨r1, r2, r3⟩ := hrl
      rw [e1, e2] at r3
      have HR3 := hide r3
      clear e1 e2 r3 cf cg hf hg
      go_wp2_with (at_builtin; refine wpList_append_own _ rfl _ _ 88 rfl w.heap.size 3 i (.int .i64 0) 1 8 Tryd.underlying88 hi hz0 hz1 hz2 rfl (by decide) _ _ _ rfl (hrow.alloc _) ⟨wr.heap.size, 0, none⟩ 1 1 [.int .i64 c] rfl rfl (cells_one _ _ _) (fun u hu => by simp at hu; subst hu; rfl) (by unfold maxLen; omega) (by omega) (by simp; omega) ?_; intro v4 w4 hown4 hgrow4 hx4; have ho5 := own_push hown4; have hb5 := (hbel.alloc (by omega) _).grown hgrow4 (by simp; omega) (fun j hj => (hrow.lt j hj).1); clear hown4 hgrow4 hx4 hrow hown)
      refine (rtrim_any _ (k + 1) _ _ ho5.sl (by omega)).mono ?_
      rintro e w5 ⟨p, v5, rfl, o5, b5, l5, z5, t5⟩
      have hz6 := hb5.size
      go_wp2_with fail
      go_ret
      refine ⟨p, _, v5, rfl, o5.mono (by omega), hb5.trans (b5.mono (by omega)), ⟨fun j hj => ?_, t5⟩, by omega, ?_⟩
      · by_cases e : j = k
        · rw [e, upd_same]; omega
        · rw [upd_other e]; exact r2 j (by omega)
      · rw [← num_tail l5 z5, num_succ, upd_same, num_congr (g := S) (fun j hj => upd_other (by omega))]
        exact unhide HR3

end Go.Proofs.YtdiacbfdfoeemaaDoor
