/-
  What is proved here: the document's own half and full: limbs of 32 bits as limbs of 16, and back.
-/
import Derived.Test.YtdiacbfdfoeemaaDoorRef1
import Derived.Test.YtdiacbfdfoeemaaDoorMul
import Derived.Test.YtdiacbfdfoeemaaDoorText
namespace Go.Proofs.YtdiacbfdfoeemaaDoor
open Go Go.RowKit

theorem half_lo (x : Nat) (h : x < 4294967296) : IntKind.i64.wrap ((x : Int).tmod 65536) = ((x % 65536 : Nat) : Int) := by
  rw [Int.tmod_eq_emod_of_nonneg (by omega)]
  simp only [IntKind.wrap, IntKind.bits, IntKind.signed]
  simp
  omega
theorem half_hi (x : Nat) (h : x < 4294967296) : IntKind.i64.wrap (IntKind.u32.wrap ((x : Int) / 65536)) = ((x / 65536 : Nat) : Int) := by
  simp only [IntKind.wrap, IntKind.bits, IntKind.signed]
  simp
  omega

set_option maxRecDepth 4000 in
set_option maxHeartbeats 2000000 in
theorem half_any (v : Value) (n : Nat) (f : Nat → Nat) (w : World) (hv : Sl .u32 w v n f) (hf : ∀ i, i < n → f i < 4294967296) (hn : n ≤ 1000000000000) :
    Calls Tryd.prog 81 #[v] w fun e w' => ∃ m h v', e = .returned v' ∧ Own .i64 3 w' w.heap.size v' m h ∧ Below w.heap.size w w' ∧ Can 65536 h m ∧ m ≤ 2 * n ∧ num 65536 h m = num 4294967296 f n := by
  obtain ⟨i, hi, hz0, hz1, hz2⟩ := info_parts infoI
  obtain ⟨ao, cap, rfl, h1, h2, h0, h3⟩ := hv
  clear h0
  go_enter Tryd.func81, Tryd.ntmps81
  go_wp2_with fail
  go_loopw [3, 4] (fun u3 t4 wr => ∃ k : Nat, k ≤ n ∧ t4 = .int .i64 k ∧ Own .i64 3 wr w.heap.size u3 (2 * k) (hv f) ∧ Below w.heap.size w wr) (fun _ t4 _ => n - (intOf t4).toNat)
  case atStart => exact ⟨0, Nat.zero_le _, rfl, .inl ⟨rfl, rfl⟩, Below.refl _ _⟩
  case round =>
    obtain ⟨k, hk, rfl, hown, hbel⟩ := hrel
    have hrow := hown.row
    have hsz := hbel.size
    by_cases hlt : k < n
    · rcases h3 with h3 | ⟨b, off, rfl, hc⟩
      · omega
      have hx := (hbel.cell (p := ⟨b, off + k, none⟩) (Rd.lt hc (by omega))).trans (hc k hlt)
      have hbw : b < w.heap.size := Rd.lt hc (by omega)
      have hxl := hf k hlt
      have HL := hide (hv_lo f k)
      have HH := hide (hv_hi f k)
      have hk0 : (0 : Int) ≤ (k : Int) := by omega
      have hkn : (k : Int) < (n : Int) := by omega
      clear hc hf
      generalize f k = x at *
      go_wp2_with fail
      go_region_held3 (fun w' => w'.cell? ⟨b, off + k, none⟩ = some (.int .u32 x)) (first | go_keep | exact hgrow4.cell (((((Below.refl wr.heap.size wr).alloc (Nat.le_refl _) _).drew).cell (p := ⟨b, off + k, none⟩) (show b < wr.heap.size by omega)).trans hx) (fun e => by have := (hrow.lt b e.symm).1; omega))
        ((refine step_append_lies _ (by rfl) _ _ 88 (by rfl) w.heap.size 3 i (.int .i64 0) 1 8 Tryd.underlying88 hi hz0 hz1 hz2 rfl (by decide) _ _ _ (by rfl) ((hrow.alloc _).drew) ⟨wr.heap.size, 0, none⟩ 2 2 [.int .i64 (IntKind.i64.wrap ((x : Int).tmod 65536)), .int .i64 (IntKind.i64.wrap (IntKind.u32.wrap ((x : Int) / 65536)))] (by rfl) rfl (World.news_of_block (cs := #[.int .i64 (IntKind.i64.wrap ((x : Int).tmod 65536)), .int .i64 (IntKind.i64.wrap (IntKind.u32.wrap ((x : Int) / 65536)))]) (t := 3) (fr := (0, 0)) (heap_alloc_new wr _)) (by simp [Value.oneCell']) (by decide) (by unfold maxLen; omega) (by omega) (by simp; omega) (wr.heap.size + 1) (by simp) ?_; intro g4 cap4 w4 hown4 hgrow4 hat4 hlt4))
      rw [half_lo x hxl, half_hi x hxl] at hown4
      have ho5 := own_push2 hown4 (unhide HL) (unhide HH)
      have hb5 : Below w.heap.size w w4 := ((hbel.alloc (by omega) _).drew).grown hgrow4 (by simp; omega) (fun j hj => (hrow.lt j hj).1)
      clear hown4 hgrow4 hat4 hrow hown hbel hx
      go_wp2_with fail
      go_roundw
      case rel => exact ⟨k + 1, by omega, by go_num, ho5, hb5⟩
      case measure => simp [intOf]; omega
    · obtain rfl : k = n := by omega
      go_wp2_with fail
      refine (rtrim_any _ (2 * k) _ _ hown.sl (by omega)).mono ?_
      rintro e w5 ⟨p, v5, rfl, o5, b5, l5, z5, t5⟩
      go_wp2_with fail
      go_ret
      exact ⟨p, _, v5, rfl, o5.mono (by omega), hbel.trans (b5.mono (by omega)), ⟨fun j hj => hv_lt hf j (by omega), t5⟩, l5, by rw [← num_tail l5 z5, num_hv]⟩

/-- Pairs of what was cut off behind p places. -/
def pr (h : Nat → Nat) (p : Nat) : Nat → Nat := fun k => cut h p (2 * k) + cut h p (2 * k + 1) * 65536
theorem pr_lt {h : Nat → Nat} {p : Nat} (hd : ∀ i, i < p → h i < 65536) : ∀ k, pr h p k < 4294967296 := by
  intro k
  have c : ∀ i, cut h p i < 65536 := fun i => by by_cases e : i < p; rw [cut_in e]; exact hd i e; rw [cut_out (by omega)]; decide
  have h1 := c (2 * k)
  have h2 := c (2 * k + 1)
  unfold pr
  omega

set_option maxRecDepth 4000 in
set_option maxHeartbeats 2000000 in
theorem full_any (v : Value) (n : Nat) (h : Nat → Nat) (w : World) (hv : Sl .i64 w v n h) (hd : ∀ i, i < n → h i < 65536) (hn : n ≤ 1000000000000) :
    Calls Tryd.prog 82 #[v] w fun e w' => ∃ m f v', e = .returned v' ∧ Own .u32 64 w' w.heap.size v' m f ∧ Below w.heap.size w w' ∧ Can 4294967296 f m ∧ m ≤ n ∧ num 4294967296 f m = num 65536 h n := by
  obtain ⟨i, hi, hz0, hz1, hz2⟩ := info_parts infoU
  go_enter Tryd.func82, Tryd.ntmps82
  go_wp2_with fail
  refine (rtrim_any _ n h _ hv (by omega)).mono ?_
  rintro e w1 ⟨p, v1, rfl, o1, b1, l1, z1, t1⟩
  have HN := hide (num_tail (B := 65536) l1 z1)
  have hpd : ∀ i, i < p → h i < 65536 := fun i hi => hd i (by omega)
  have hprl := pr_lt hpd
  obtain ⟨ao, cap, e1, q1, q2, q0, q3⟩ := o1.sl
  subst e1
  have hz1' := b1.size
  clear hd z1 hv q0
  go_wp2_with fail
  go_loopw [3, 4] (fun u3 t4 wr => ∃ k : Nat, 2 * k ≤ p + 1 ∧ t4 = .int .i64 (2 * k : Nat) ∧ Own .u32 64 wr w1.heap.size u3 k (pr h p) ∧ Below w1.heap.size w1 wr) (fun _ t4 _ => p + 1 - (intOf t4).toNat)
  case atStart => exact ⟨0, by omega, rfl, .inl ⟨rfl, rfl⟩, Below.refl _ _⟩
  case round =>
    obtain ⟨k, hk, rfl, hown, hbel⟩ := hrel
    have hrow := hown.row
    have hsz := hbel.size
    by_cases hlt : 2 * k < p
    · rcases q3 with q3 | ⟨b, off, rfl, hc⟩
      · omega
      have hx := (hbel.cell (p := ⟨b, off + 2 * k, none⟩) (Rd.lt hc (by omega))).trans (hc (2 * k) hlt)
      have hxl := hpd (2 * k) hlt
      by_cases hlt2 : 2 * k + 1 < p
      · have hy := (hbel.cell (p := ⟨b, off + (2 * k + 1), none⟩) (Rd.lt hc (by omega))).trans (hc (2 * k + 1) hlt2)
        have hyl := hpd (2 * k + 1) hlt2
        have HP := hide (show pr h p k = h (2 * k) + h (2 * k + 1) * 65536 by unfold pr; rw [cut_in hlt, cut_in hlt2])
        have HPUSH := hide (fun (v4 : Value) (w4 : World) (x : Nat) (hx : x = pr h p k) (H : w4.ownsRow w1.heap.size 64 1 v4 (k + 1) (cellsOf .u32 (pr h p) k ++ [Value.int .u32 (x : Int)])) => (own_push H).congr (f' := pr h p) (fun j hj => by by_cases e : j = k; rw [e, upd_same, hx]; rw [upd_other e]))
        clear hc hpd hprl
        generalize h (2 * k) = x at *
        generalize h (2 * k + 1) = y at *
        go_wp2_with (at_builtin; refine wpList_append_own _ rfl _ _ 24 rfl w1.heap.size 64 i (.int .u32 0) 1 4 Tryd.underlying24 hi hz0 hz1 hz2 rfl (by decide) _ _ _ rfl (hrow.alloc _) ⟨wr.heap.size, 0, none⟩ 1 1 [.int .u32 ((x : Int) + (y : Int) * 65536)] rfl rfl (cells_one _ _ _) (fun u hu => by simp at hu; subst hu; rfl) (by unfold maxLen; omega) (by omega) (by simp; omega) ?_; intro v4 w4 hown4 hgrow4 hx4)
        rw [show ((x : Int) + (y : Int) * 65536) = ((x + y * 65536 : Nat) : Int) from by simp] at hown4
        have ho5 := unhide HPUSH _ _ _ (unhide HP).symm hown4
        have hb5 := (hbel.alloc (by omega) _).grown hgrow4 (by simp; omega) (fun j hj => (hrow.lt j hj).1)
        clear hown4 hgrow4 hx4 hrow hown hbel hx hy
        go_wp2_with fail
        go_roundw
        case rel => exact ⟨k + 1, by omega, by go_num, ho5, hb5⟩
        case measure => simp [intOf]; omega
      · have HP := hide (show pr h p k = h (2 * k) by unfold pr; rw [cut_in hlt, cut_out (by omega)]; omega)
        have HPUSH := hide (fun (v4 : Value) (w4 : World) (x : Nat) (hx : x = pr h p k) (H : w4.ownsRow w1.heap.size 64 1 v4 (k + 1) (cellsOf .u32 (pr h p) k ++ [Value.int .u32 (x : Int)])) => (own_push H).congr (f' := pr h p) (fun j hj => by by_cases e : j = k; rw [e, upd_same, hx]; rw [upd_other e]))
        clear hc hpd hprl
        generalize h (2 * k) = x at *
        go_wp2_with (at_builtin; refine wpList_append_own _ rfl _ _ 24 rfl w1.heap.size 64 i (.int .u32 0) 1 4 Tryd.underlying24 hi hz0 hz1 hz2 rfl (by decide) _ _ _ rfl (hrow.alloc _) ⟨wr.heap.size, 0, none⟩ 1 1 [.int .u32 (x : Int)] rfl rfl (cells_one _ _ _) (fun u hu => by simp at hu; subst hu; rfl) (by unfold maxLen; omega) (by omega) (by simp; omega) ?_; intro v4 w4 hown4 hgrow4 hx4)
        have ho5 := unhide HPUSH _ _ _ (unhide HP).symm hown4
        have hb5 := (hbel.alloc (by omega) _).grown hgrow4 (by simp; omega) (fun j hj => (hrow.lt j hj).1)
        clear hown4 hgrow4 hx4 hrow hown hbel hx
        go_wp2_with fail
        go_roundw
        case rel => exact ⟨k + 1, by omega, by go_num, ho5, hb5⟩
        case measure => simp [intOf]; omega
    · go_wp2_with fail
      go_ret
      refine ⟨k, _, _, rfl, hown.mono (by omega), b1.trans (hbel.mono (by omega)), ⟨fun j _ => hprl j, ?_⟩, by omega, ?_⟩
      · by_cases hk0 : k = 0
        · exact .inl hk0
        · right
          have hne : h (p - 1) ≠ 0 := by rcases t1 with h | h; omega; exact h
          unfold pr
          by_cases e : 2 * (k - 1) = p - 1
          · rw [e, cut_in (by omega)]; omega
          · rw [show 2 * (k - 1) + 1 = p - 1 from by omega, cut_in (i := p - 1) (by omega)]; omega
      · rw [unhide HN, ← num_pairs (cut h p) (pr h p) k (fun j _ => rfl), num_cut (by omega)]

end Go.Proofs.YtdiacbfdfoeemaaDoor
