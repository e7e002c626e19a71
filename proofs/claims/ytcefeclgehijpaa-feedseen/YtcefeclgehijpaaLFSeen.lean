/-
  What is proved here: FeedSeen's walk.
-/
import Derived.Test.YtcefeclgehijpaaFSeen0
import Derived.Test.YtcefeclgehijpaaLFTables
namespace Go.Proofs.Ytcefeclgehijpaa
open Go Go.RowKit

set_option maxRecDepth 20000 in
set_option maxHeartbeats 4000000 in
theorem seen_walk (w : World) (ao bo : Option Addr) (n m cap cap' : Nat) (y z : Nat → Int) (hy : IRow w ao n y) (hz : IRow w bo m z) (hn : n ≤ 9223372036854775807) (_hm : m ≤ 9223372036854775807) (_hyr : ∀ i, i < n → -9223372036854775808 ≤ y i ∧ y i ≤ 9223372036854775807) (_hzr : ∀ i, i < m → -9223372036854775808 ≤ z i ∧ z i ≤ 9223372036854775807) :
    Calls Try.prog 6 #[.slice ao n cap, .slice bo m cap'] w fun e w' => e = .returned (.bool true) ∧ Below w.heap.size w w' := by
  have HY := hide hy
  have HZ := hide hz
  have K1 := hide (fun W => new_any W)
  have K9 := hide (fun W => awake_any W)
  clear hy hz
  go_enter Try.func6, Try.ntmps6
  go_wp2_with (go_at_call 7; refine (K1.out _).mono ?_; rintro e1 w1 ⟨t, r, rfl, A1, F1, h1, h2⟩; have HA1 := hide A1; have HF1 := hide F1; clear A1 F1)
  have hZ : IAt (w1.alloc (.cells (Array.replicate 25 (.int .i64 0)) 47)) w1.heap.size (fun _ => 0) := ⟨_, heap_alloc_new w1 _, by simp, fun q hq => by simp [hq]⟩
  have HS0 : Hid (SN w (w1.alloc (.cells (Array.replicate 25 (.int .i64 0)) 47)) t r [] 0 w1.heap.size (fun _ => 0)) :=
    ⟨HA1.out.same ((Fr.refl _ _).alloc _), hZ, fun hk => by have := HA1.out.lt _ hk; omega, fun k hk => by rcases foot_nil hk with rfl | rfl <;> assumption, HF1.out.size, HF1.out.alloc _, (fun _ _ _ _ => rfl), (fun x hx => by cases hx), (fun x hx => by cases hx)⟩
  have hrw : w1.alloc (.cells #[.int .i64 0, .int .i64 0, .int .i64 0, .int .i64 0, .int .i64 0, .int .i64 0, .int .i64 0, .int .i64 0, .int .i64 0, .int .i64 0, .int .i64 0, .int .i64 0, .int .i64 0, .int .i64 0, .int .i64 0, .int .i64 0, .int .i64 0, .int .i64 0, .int .i64 0, .int .i64 0, .int .i64 0, .int .i64 0, .int .i64 0, .int .i64 0, .int .i64 0] 47) = w1.alloc (.cells (Array.replicate 25 (.int .i64 0)) 47) := rfl
  rw [hrw]
  clear hZ hrw HA1 HF1 K1
  generalize w1.alloc (.cells (Array.replicate 25 (.int .i64 0)) 47) = w2 at *
  generalize w1.heap.size = mb at *
  go_loopw [7] (fun u wr => ∃ i : Nat, u = .int .i64 (i : Int) ∧ i ≤ n ∧ ∃ T clk M, SN w wr t r T clk mb M) (fun u _ => n - (intOf u).toNat)
  case atStart => exact ⟨0, rfl, Nat.zero_le _, [], 0, _, HS0.out⟩
  case round =>
    obtain ⟨i, rfl, hi, T, clk, M, hS⟩ := hrel
    by_cases hin : i < n
    · have hiI : (i : Int) < (n : Int) := by omega
      obtain ⟨b, off, rfl, hcy⟩ : ∃ b off, ao = some ⟨b, off, none⟩ ∧ ∀ i, i < n → w.cell? ⟨b, off + i, none⟩ = some (.int .i64 (y i)) := by
        rcases HY.out with e | e
        · omega
        · exact e
      have q0 := hcy i hin
      rw [← hS.fr.cell (World.block_lt_of_cell? w _ q0) (fun e => e)] at q0
      generalize y i = yi at *
      obtain ⟨r2, hr2⟩ : ∃ r2, yi.tmod 25 = r2 := ⟨_, rfl⟩
      have hb25 := abs_rem (z := yi) (n := 25) (by omega)
      rw [show (((25 : Nat) : Int)) = 25 from rfl, hr2] at hb25
      obtain ⟨pp, hpp⟩ : ∃ pp : Nat, (r2 + 25) % 25 = (pp : Int) := ⟨((r2 + 25) % 25).toNat, by omega⟩
      have hpl : pp < 25 := by omega
      obtain ⟨pa, hpa⟩ : ∃ pa : Nat, (pp : Int) / 5 = (pa : Int) := ⟨pp / 5, by omega⟩
      obtain ⟨pc, hpc⟩ : ∃ pc : Nat, (pp : Int) % 5 = (pc : Int) := ⟨pp % 5, by omega⟩
      have hpal : pa < 5 := by omega
      have hpcl : pc < 5 := by omega
      have HS := hide hS
      clear hS hcy
      by_cases him : i < m
      · have himI : (i : Int) < (m : Int) := by omega
        obtain ⟨b', off', rfl, hcz⟩ : ∃ b off, bo = some ⟨b, off, none⟩ ∧ ∀ i, i < m → w.cell? ⟨b, off + i, none⟩ = some (.int .i64 (z i)) := by
          rcases HZ.out with e | e
          · omega
          · exact e
        have q1 := hcz i him
        rw [← HS.out.fr.cell (World.block_lt_of_cell? w _ q1) (fun e => e)] at q1
        generalize z i = zi at *
        obtain ⟨r1, hr1⟩ : ∃ r1, zi.tmod 10 = r1 := ⟨_, rfl⟩
        have hb10 := abs_rem (z := zi) (n := 10) (by omega)
        rw [show (((10 : Nat) : Int)) = 10 from rfl, hr1] at hb10
        obtain ⟨k0, hk0⟩ : ∃ k0 : Nat, (r1 + 10) % 10 = (k0 : Int) := ⟨((r1 + 10) % 10).toNat, by omega⟩
        have hk0l : k0 < 10 := by omega
        obtain ⟨kk, hkk⟩ : ∃ kk : Nat, 1 + (k0 : Int) = (kk : Int) := ⟨k0 + 1, by omega⟩
        have hk1 : 1 ≤ kk := by omega
        have hk2 : kk ≤ 62 := by omega
        have hbit := bit_eq hk1 hk2
        have hw64 : wrap64 (2 ^ kk) = 2 ^ kk := by have := w64_pow (x := (kk : Int)) (by omega) (by omega); simpa using this
        have hbz : (2 : Int) ^ kk ≠ 0 := Int.ne_of_gt (Int.pow_pos (by decide))
        clear hcz
        go_upto_region 12 with fail
        have hb2 : IRow (wr.alloc (.cells #[.int .i64 (kk : Int)] 3)) (some ⟨wr.heap.size, 0, none⟩) 1 (fun _ => (kk : Int)) := .inr ⟨_, _, rfl, fun q hq => by
          obtain rfl : q = 0 := by omega
          rw [cell_of_row _ _ _ _ _ _ (heap_alloc_new wr _)]
          rfl⟩
        have HS2 := hide (HS.out.same ((Fr.refl _ wr).alloc (.cells #[.int .i64 (kk : Int)] 3)))
        have K2 := see_any _ t r clk T HS2.out.tab (pa : Int) (pc : Int) (some ⟨wr.heap.size, 0, none⟩) 1 1 (fun _ => (kk : Int)) (by omega) hb2
        rw [hbit] at K2
        have HK2 := hide K2
        clear hb2 K2
        go_upto_region 13 with (go_at_call 8; refine HK2.out.mono ?_; rintro e3 wx ⟨rfl, A3⟩; have HA3 := hide A3; have arx := HS2.out.ar.keep (A3.choose_spec.choose_spec.2.1.block _ HS2.out.ar.lt HS2.out.apart); have c3 := arx.cell (q := pa * 5 + pc) (by omega); have f3 := arx.free (pa * 5 + pc); clear A3 arx)
        go_region
        go_wp2_with fail
        refine ⟨⟨i + 1, by go_num, hin, ?_⟩, by simp [intOf]; omega⟩
        obtain ⟨T', clk', q⟩ := HS2.out.see hpal hpcl hbz HA3.out rfl
        exact ⟨T', clk', _, q.same ((Fr.refl _ _).drew)⟩
      · have himI : ¬ ((i : Int) < (m : Int)) := by omega
        have hbit : mk (fun _ => (1 : Int)) 1 = 2 := by decide
        have hbz : (2 : Int) ≠ 0 := by decide
        go_upto_region 12 with fail
        have hb2 : IRow (wr.alloc (.cells #[.int .i64 1] 3)) (some ⟨wr.heap.size, 0, none⟩) 1 (fun _ => 1) := .inr ⟨_, _, rfl, fun q hq => by
          obtain rfl : q = 0 := by omega
          rw [cell_of_row _ _ _ _ _ _ (heap_alloc_new wr _)]
          rfl⟩
        have HS2 := hide (HS.out.same ((Fr.refl _ wr).alloc (.cells #[.int .i64 1] 3)))
        have K2 := see_any _ t r clk T HS2.out.tab (pa : Int) (pc : Int) (some ⟨wr.heap.size, 0, none⟩) 1 1 (fun _ => 1) (by omega) hb2
        rw [hbit] at K2
        have HK2 := hide K2
        clear hb2 K2
        go_upto_region 13 with (go_at_call 8; refine HK2.out.mono ?_; rintro e3 wx ⟨rfl, A3⟩; have HA3 := hide A3; have arx := HS2.out.ar.keep (A3.choose_spec.choose_spec.2.1.block _ HS2.out.ar.lt HS2.out.apart); have c3 := arx.cell (q := pa * 5 + pc) (by omega); have f3 := arx.free (pa * 5 + pc); clear A3 arx)
        go_region
        go_wp2_with fail
        refine ⟨⟨i + 1, by go_num, hin, ?_⟩, by simp [intOf]; omega⟩
        obtain ⟨T', clk', q⟩ := HS2.out.see hpal hpcl hbz HA3.out rfl
        exact ⟨T', clk', _, q.same ((Fr.refl _ _).drew)⟩
    · have hiI : ¬ ((i : Int) < (n : Int)) := by omega
      have HS := hide hS
      clear hS hin
      go_wp2_with fail
      go_loopw [10, 11] (fun u10 u11 wr => ∃ a : Nat, a ≤ 5 ∧ u11 = .int .i64 (a : Int) ∧ u10 = .int .i64 ((cnt M (a * 5) : Nat) : Int) ∧ SN w wr t r T clk mb M) (fun _ u11 _ => 5 - (intOf u11).toNat)
      case atStart => exact ⟨0, by omega, rfl, rfl, HS.out⟩
      case round =>
        obtain ⟨a, ha, rfl, rfl, hS2⟩ := hrel
        by_cases ha5 : a < 5
        · have haI : (a : Int) < 5 := by omega
          have HS2 := hide hS2
          clear hS2
          go_wp2_with fail
          go_loopw [10, 12] (fun u10 u12 wr => ∃ c : Nat, c ≤ 5 ∧ u12 = .int .i64 (c : Int) ∧ u10 = .int .i64 ((cnt M (a * 5 + c) : Nat) : Int) ∧ SN w wr t r T clk mb M) (fun _ u12 _ => 5 - (intOf u12).toNat)
          case atStart => exact ⟨0, by omega, rfl, rfl, HS2.out⟩
          case round =>
            obtain ⟨c, hc, rfl, rfl, hS3⟩ := hrel
            by_cases hc5 : c < 5
            · have hcI : (c : Int) < 5 := by omega
              have c3 := hS3.ar.cell (q := a * 5 + c) (by omega)
              have K4 := at_look
              have HS3 := hide hS3
              have HK4 : Hid (∀ W, SN w W t r T clk mb M → Calls Try.prog 16 #[.pointer (some ⟨t, 0, none⟩), .int .i64 (a : Int), .int .i64 (c : Int)] W fun e w' => e = .returned (fdV (a : Int) (c : Int) (M (a * 5 + c)) (-1)) ∧ SN w w' t r T clk mb M) := fun W hW => by
                have h5 := at_look W t r clk T hW.tab (a : Int) (c : Int)
                rw [hW.lk a c ha5 hc5] at h5
                exact h5.mono (by rintro e w' ⟨rfl, F⟩; exact ⟨rfl, hW.same F⟩)
              have hcq := cnt_succ M (a * 5 + c)
              have hcl := cnt_le M (a * 5 + c)
              clear hS3 K4
              go_upto_region 21 with fail
              go_cut [88] from 72 to 96 (fun s wc => s = .bool false ∧ SN w wc t r T clk mb M)
              case first =>
                go_region_held3 (fun w' => w'.cell? ⟨mb, a * 5 + c, none⟩ = some (.int .i64 (M (a * 5 + c)))) (go_keep)
                  (first | (go_at_call 16; refine (HK4.out _ (HS3.out.same ((Fr.refl _ _).drew))).mono ?_; rintro e4 w4 ⟨rfl, hS4⟩; unfold fdV; have c4 := hS4.ar.cell (q := a * 5 + c) (by omega); have HS4 := hide hS4; clear hS4))
                all_goals (go_wp2_with fail; go_meet)
                all_goals exact ⟨rfl, HS4.out⟩
              case rest =>
                obtain ⟨rfl, hS5⟩ := hcut
                have c5 := hS5.ar.cell (q := a * 5 + c) (by omega)
                have HS5 := hide hS5
                clear hS5 c3
                by_cases hM : M (a * 5 + c) = 0
                · rw [hM] at c5
                  rw [if_pos hM] at hcq
                  go_wp2_with fail
                  refine ⟨⟨c + 1, by omega, by go_num, ?_, HS5.out⟩, by simp [intOf]; omega⟩
                  rw [← Nat.add_assoc, hcq]
                  rfl
                · rw [if_neg hM] at hcq
                  generalize M (a * 5 + c) = mv at *
                  go_wp2_with fail
                  refine ⟨⟨c + 1, by omega, by go_num, ?_, HS5.out⟩, by simp [intOf]; omega⟩
                  rw [← Nat.add_assoc, hcq]
                  rfl
            · have hc' : c = 5 := by omega
              subst hc'
              have HS3 := hide hS3
              clear hS3 hc5
              go_wp2_with fail
              refine ⟨⟨a + 1, by omega, by go_num, ?_, HS3.out⟩, by simp [intOf]; omega⟩
              rw [show (a + 1) * 5 = a * 5 + 5 by omega]
        · have ha' : a = 5 := by omega
          subst ha'
          have hlT := hS2.len
          have hcnt := hS2.count
          have HK := hide (fds_keys hS2.tab.ky)
          have HS3 := hide hS2
          have K5 := hide (all_any _ t r clk T hS2.tab (by omega))
          clear hS2 ha5
          go_wp2_with (first | (go_at_call 19; refine K5.out.mono ?_; rintro e5 w5 ⟨ao5, cap5, L5, rfl, R5, P5, S5, F5, l5⟩; have HR5 := hide R5; have HP5 := hide P5; have HS5 := hide (strict_of (((P5.map keyF).nodup_iff).2 HK.out) S5); have HB5 := hide (HS3.out.fr.trans F5 (fun _ _ e => e)); clear R5 P5 S5 F5))
          have HLEN : Hid (L5.length = cnt M 25) := by unfold Hid; rw [HP5.out.length_eq, hcnt]
          clear hcnt
          go_loopw [14] (fun u wr => ∃ j : Nat, u = .int .i64 (j : Int) ∧ 1 ≤ j ∧ (j = 1 ∨ j ≤ L5.length) ∧ ∃ q, wr = w5.drewN q) (fun u _ => L5.length - (intOf u).toNat)
          case atStart => exact ⟨1, rfl, Nat.le_refl _, .inl rfl, 0, rfl⟩
          case round =>
            obtain ⟨j, rfl, hj1, hj, q, rfl⟩ := hrel
            obtain ⟨j0, hj0⟩ : ∃ j0 : Nat, (j : Int) - 1 = (j0 : Int) := ⟨j - 1, by omega⟩
            by_cases hjl : j < L5.length
            · have hjI : (j : Int) < (L5.length : Int) := by omega
              have hj0I : (j0 : Int) < (L5.length : Int) := by omega
              have hwr : IntKind.i64.wrap ((j : Int) - 1) = (j0 : Int) := by rw [hj0]; simp [IntKind.wrap, IntKind.bits, IntKind.signed]; omega
              obtain ⟨b5, off5, rfl, hc5⟩ : ∃ b off, ao5 = some ⟨b, off, none⟩ ∧ ∀ i, i < L5.length → w5.cell? ⟨b, off + i * 4, none⟩ = some (.int .i64 (L5.getD i z0).p) ∧ w5.cell? ⟨b, off + i * 4 + 1, none⟩ = some (.int .i64 (L5.getD i z0).c) ∧ w5.cell? ⟨b, off + i * 4 + 2, none⟩ = some (.int .i64 (L5.getD i z0).m) ∧ w5.cell? ⟨b, off + i * 4 + 3, none⟩ = some (.int .i64 (L5.getD i z0).k) := by
                rcases HR5.out with e | e
                · omega
                · exact e
              have y0 := hc5 j0 (by omega)
              have y1 := hc5 j hjl
              have hlt : ltF (L5.getD j0 z0) (L5.getD j z0) := by
                have := List.pairwise_iff_getElem.1 HS5.out j0 j (by omega) hjl (by omega)
                simpa [hjl, show j0 < L5.length by omega, List.getD_eq_getElem?_getD] using this
              clear hc5 hj0
              generalize L5.getD j0 z0 = f0 at *
              generalize L5.getD j z0 = f1 at *
              rcases hlt with hl | ⟨hl, hl'⟩
              · have e1 : ¬ (f1.p < f0.p) := by omega
                have e2 : ¬ (f1.p = f0.p) := by omega
                have q00 := y0.1
                have q01 := y0.2.1
                have q10 := y1.1
                have q11 := y1.2.1
                clear y0 y1
                go_wp2_with fail
                go_quiet (fail)
                go_wp2_with fail
                exact ⟨⟨j + 1, by go_num, by omega, .inr hjl, _, rfl⟩, by simp [intOf]; omega⟩
              · have e1 : ¬ (f1.p < f0.p) := by omega
                have e2 : f1.p = f0.p := by omega
                have e3 : ¬ (f1.c ≤ f0.c) := by omega
                have q00 := y0.1
                have q01 := y0.2.1
                have q10 := y1.1
                have q11 := y1.2.1
                rw [e2] at q10
                have e1' : ¬ (f0.p < f0.p) := by omega
                clear e1 e2 hl
                clear y0 y1
                go_wp2_with fail
                go_quiet (fail)
                go_wp2_with fail
                exact ⟨⟨j + 1, by go_num, by omega, .inr hjl, _, rfl⟩, by simp [intOf]; omega⟩
            · have hjI : ¬ ((j : Int) < (L5.length : Int)) := by omega
              have hle : ((L5.length : Int) == ((cnt M (5 * 5) : Nat) : Int)) = true := by rw [HLEN.out]; simp
              go_wp2_with (first | (go_at_call 21; refine (K9.out _).mono ?_; rintro e8 w8 ⟨rfl, F8⟩; have HF8 := hide F8; clear F8))
              go_ret
              exact ⟨rfl, ((HB5.out.drewN _).trans HF8.out (fun _ _ e => e)).below (Nat.le_refl _) (fun _ _ e => e)⟩

end Go.Proofs.Ytcefeclgehijpaa
