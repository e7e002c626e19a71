/-
  What is proved here: the document's own sub on limbs of 16 bits.
-/
import Derived.Test.YtdiacbfdfoeemaaDoorRef2
namespace Go.Proofs.YtdiacbfdfoeemaaDoor
open Go Go.RowKit

theorem wrap_i64 (a : Int) (h1 : -9223372036854775808 ≤ a) (h2 : a ≤ 9223372036854775807) : IntKind.i64.wrap a = a := by
  simp only [IntKind.wrap, IntKind.bits, IntKind.signed]
  simp
  omega

set_option maxRecDepth 4000 in
set_option maxHeartbeats 2000000 in
theorem rsub_any (v u : Value) (n m : Nat) (f g : Nat → Nat) (w : World) (hv : Sl .i64 w v n f) (hu : Sl .i64 w u m g) (hf : ∀ i, i < n → f i < 65536) (hg : ∀ i, i < m → g i < 65536) (hmn : m ≤ n) (hn : n ≤ 1000000000000) (hle : num 65536 g m ≤ num 65536 f n) :
    Calls Tryd.prog 88 #[v, u] w fun e w' => ∃ n' f' v', e = .returned v' ∧ Own .i64 3 w' w.heap.size v' n' f' ∧ Below w.heap.size w w' ∧ Can 65536 f' n' ∧ n' ≤ n ∧ num 65536 f' n' + num 65536 g m = num 65536 f n := by
  obtain ⟨i, hi, hz0, hz1, hz2⟩ := info_parts infoI
  obtain ⟨ao, cap, ev, h1, h2, h0, h3⟩ := id hv
  obtain ⟨bo, capb, eu, -⟩ := id hu
  subst ev eu
  clear h0
  have cg : ∀ i, cut g m i < 65536 := fun i => by by_cases h : i < m; rw [cut_in h]; exact hg i h; rw [cut_out (by omega)]; decide
  go_enter Tryd.func88, Tryd.ntmps88
  go_wp2_with fail
  go_loopw [5, 6, 7] (fun u5 t6 t7 wr => ∃ (k c : Nat) (S : Nat → Nat), k ≤ n ∧ t7 = .int .i64 k ∧ t6 = .int .i64 c ∧ Own .i64 3 wr w.heap.size u5 k S ∧ Below w.heap.size w wr ∧ DifRel 65536 f (cut g m) S k c) (fun _ _ t7 _ => n - (intOf t7).toNat)
  case atStart => exact ⟨0, 0, fun _ => 0, by omega, rfl, rfl, .inl ⟨rfl, rfl⟩, Below.refl _ _, ⟨by omega, fun i hi => by omega, by simp [num]⟩⟩
  case round =>
    obtain ⟨k, c, S, hk, rfl, rfl, hown, hbel, hrl⟩ := hrel
    have hrow := hown.row
    have hsz := hbel.size
    have hc1 : c ≤ 1 := hrl.1
    have hur := hu.below hbel (Nat.le_refl _)
    by_cases hlt : k < n
    · rcases h3 with h3 | ⟨b, off, rfl, hc⟩
      · omega
      have hcx := (hbel.cell (p := ⟨b, off + k, none⟩) (Rd.lt hc (by omega))).trans (hc k hlt)
      have hx := hf k hlt
      have hy := cg k
      have HST := hide (fun (d b : Nat) => hrl.step (x := f k) (y := cut g m k) (d := d) (b := b) rfl rfl)
      have HB := hide (fun (w' : World) (h : Sl .i64 w' (Value.slice bo m capb) m g) => at_any _ m k g w' h (by omega))
      have hk0 : (0 : Int) ≤ (k : Int) := by omega
      have hkn : (k : Int) < (n : Int) := by omega
      clear hrl cg hf hg hc
      generalize f k = x at *
      generalize cut g m k = y at *
      have hurd : Sl .i64 wr.drew (Value.slice bo m capb) m g := hur
      have hw1 : IntKind.i64.wrap ((x : Int) - (y : Int)) = (x : Int) - (y : Int) := wrap_i64 _ (by omega) (by omega)
      have hw2 : IntKind.i64.wrap ((x : Int) - (y : Int) - (c : Int)) = (x : Int) - (y : Int) - (c : Int) := wrap_i64 _ (by omega) (by omega)
      by_cases hneg : x < y + c
      · have hn1 : (x : Int) - (y : Int) - (c : Int) < 0 := by omega
        have HD := hide (unhide HST (x + 65536 - y - c) 1 (by omega) (by omega) (by omega))
        have HV := hide (show (x : Int) - (y : Int) - (c : Int) + 65536 = ((x + 65536 - y - c : Nat) : Int) by omega)
        go_wp2_with fail
        go_region_held3 (fun w' => w'.cell? ⟨b, off + k, none⟩ = some (.int .i64 x)) (go_keep) ((go_at_call 106; refine (unhide HB _ ?_).mono ?_; exact hurd; rintro e w' ⟨rfl, rfl⟩))
        go_wp2_with (at_builtin; refine wpList_append_own _ rfl _ _ 88 rfl w.heap.size 3 i (.int .i64 0) 1 8 Tryd.underlying88 hi hz0 hz1 hz2 rfl (by decide) _ _ _ rfl ((hrow.alloc _).drew) ⟨wr.heap.size, 0, none⟩ 1 1 [.int .i64 ((x : Int) - (y : Int) - (c : Int) + 65536)] rfl rfl (World.news_of_block (cs := #[.int .i64 ((x : Int) - (y : Int) - (c : Int) + 65536)]) (t := 3) (fr := (0, 0)) (heap_alloc_new wr _)) (fun u hu => by simp at hu; subst hu; rfl) (by unfold maxLen; omega) (by omega) (by simp; omega) ?_; intro v4 w4 hown4 hgrow4 hx4)
        rw [unhide HV] at hown4
        have ho5 := own_push hown4
        have hb5 : Below w.heap.size w w4 := ((hbel.alloc (by omega) _).drew).grown hgrow4 (by simp; omega) (fun j hj => (hrow.lt j hj).1)
        clear hown4 hgrow4 hx4 hrow hown hbel hcx
        go_wp2_with fail
        go_roundw
        case rel => exact ⟨k + 1, 1, _, by omega, by go_num, by go_num, ho5, hb5, unhide HD⟩
        case measure => simp [intOf]; omega
      · have hn1 : 0 ≤ (x : Int) - (y : Int) - (c : Int) := by omega
        have HD := hide (unhide HST (x - y - c) 0 (by omega) (by omega) (by omega))
        have HV := hide (show (x : Int) - (y : Int) - (c : Int) = ((x - y - c : Nat) : Int) by omega)
        go_wp2_with fail
        go_region_held3 (fun w' => w'.cell? ⟨b, off + k, none⟩ = some (.int .i64 x)) (go_keep) ((go_at_call 106; refine (unhide HB _ ?_).mono ?_; exact hurd; rintro e w' ⟨rfl, rfl⟩))
        go_wp2_with (at_builtin; refine wpList_append_own _ rfl _ _ 88 rfl w.heap.size 3 i (.int .i64 0) 1 8 Tryd.underlying88 hi hz0 hz1 hz2 rfl (by decide) _ _ _ rfl ((hrow.alloc _).drew) ⟨wr.heap.size, 0, none⟩ 1 1 [.int .i64 ((x : Int) - (y : Int) - (c : Int))] rfl rfl (World.news_of_block (cs := #[.int .i64 ((x : Int) - (y : Int) - (c : Int))]) (t := 3) (fr := (0, 0)) (heap_alloc_new wr _)) (fun u hu => by simp at hu; subst hu; rfl) (by unfold maxLen; omega) (by omega) (by simp; omega) ?_; intro v4 w4 hown4 hgrow4 hx4)
        rw [unhide HV] at hown4
        have ho5 := own_push hown4
        have hb5 : Below w.heap.size w w4 := ((hbel.alloc (by omega) _).drew).grown hgrow4 (by simp; omega) (fun j hj => (hrow.lt j hj).1)
        clear hown4 hgrow4 hx4 hrow hown hbel hcx
        go_wp2_with fail
        go_roundw
        case rel => exact ⟨k + 1, 0, _, by omega, by go_num, by go_num, ho5, hb5, unhide HD⟩
        case measure => simp [intOf]; omega
    · obtain rfl : k = n := by omega
      have e2 : num 65536 (cut g m) k = num 65536 g m := num_cut hmn
      obtain ⟨r1, r2, r3⟩ := hrl
      rw [e2] at r3
      have hlt2 := num_lt r2
      have hc0 : c = 0 := by
        by_cases h : c = 0
        · exact h
        · exfalso
          have : 1 * 65536 ^ k ≤ c * 65536 ^ k := Nat.mul_le_mul_right _ (by omega)
          omega
      subst hc0
      have HR3 := hide r3
      clear e2 r3 cg hf hg hlt2
      go_wp2_with fail
      refine (rtrim_any _ k S _ hown.sl (by omega)).mono ?_
      rintro e w5 ⟨p, v5, rfl, o5, b5, l5, z5, t5⟩
      go_wp2_with fail
      go_ret
      refine ⟨p, _, v5, rfl, o5.mono (by omega), hbel.trans (b5.mono (by omega)), ⟨fun j hj => r2 j (by omega), t5⟩, l5, ?_⟩
      rw [← num_tail l5 z5]
      have := unhide HR3
      omega

end Go.Proofs.YtdiacbfdfoeemaaDoor
