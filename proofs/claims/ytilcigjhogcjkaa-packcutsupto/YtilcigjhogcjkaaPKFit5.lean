/-
  What is proved here: dataFit (package pack), walked.
-/
import Derived.Test.YtilcigjhogcjkaaPKFit4
namespace Go.Proofs.Ytilcigjhogcjkaa
open Go Go.RowKit

theorem DBx.frc {w w' : World} {B cb : Nat} {c0 c1 c2 c3 c4 c5 c6 : Value} (h : DBx w B c0 c1 c2 c3 c4 c5 c6) (hn : B ≠ cb) (hf : Fr (fun k => k = cb) w w') : DBx w' B c0 c1 c2 c3 c4 c5 c6 := (hf.block B (Array.getElem?_eq_some_iff.1 h).1 hn).trans h
set_option maxRecDepth 100000 in
set_option maxHeartbeats 4000000 in
theorem dataFit_of {h : Nat} (hC : DFOK h) : DFOK (h + 1) := by
  intro w0 w cb c I v dp hr hU hcb hct hc hdp
  obtain ⟨ao, cap, rfl⟩ := hr.shape
  have hIl : I.length ≤ cap ∧ cap ≤ 9223372036854775807 := by
    obtain ⟨ao', cap', e, h1, h2, -⟩ := hr
    cases e
    exact ⟨h1, h2⟩
  have hcl := hct.lt
  have c0 := hct.cell
  have z0 := hct.free
  obtain ⟨r, hrr⟩ : ∃ r, r = (I.all (goodD (h + 1) dp) && decide (ptsA (h + 1) I ≤ c)) := ⟨_, rfl⟩
  obtain ⟨s, hs⟩ : ∃ s, s = ptsA (h + 1) I := ⟨_, rfl⟩
  have hs2 := pts_len I
  rw [← hs] at hs2
  rw [← hrr, ← hs]
  rw [← hs] at hrr
  by_cases h0 : I.length = 0
  · have hI0 : I = [] := List.length_eq_zero_iff.1 h0
    have HR : Hid (r = true) := by
      unfold Hid
      rw [hrr, hI0]
      have : s = 0 := by rw [hs, hI0]; rfl
      simp [this]
    have HS : Hid (s = 0) := by unfold Hid; rw [hs, hI0]; rfl
    have g0 : ((I.length : Int) == 0) = true := by rw [h0]; rfl
    have HCT := hide hct
    clear hrr hs hs2 hr hct hI0 h0
    go_enter Try.func39, Try.ntmps39
    go_wp2
    go_ret
    exact ⟨by rw [HR.out]; rfl, fun _ => by rw [HS.out]; exact HCT.out, Fr.refl _ _⟩
  · have g0 : ((I.length : Int) == 0) = false := by rw [beq_eq_false_iff_ne]; omega
    cases dp with
    | zero =>
      have HR : Hid (r = false) := by
        unfold Hid
        rw [hrr, all_bad (i := 0) (by omega) rfl]
        rfl
      clear hrr hs hs2 hr hct
      go_enter Try.func39, Try.ntmps39
      go_wp2
      go_ret
      exact ⟨by rw [HR.out]; rfl, (fun e => by rw [HR.out] at e; cases e), Fr.refl _ _⟩
    | succ dp =>
      have gd : ((((dp + 1 : Nat) : Int)) == 0) = false := by rw [beq_eq_false_iff_ne]; omega
      by_cases hlc : c < I.length
      · have gc : (c : Int) < (I.length : Int) := by omega
        have HR : Hid (r = false) := by
          unfold Hid
          rw [hrr, decide_eq_false (by omega), Bool.and_false]
        clear hrr hs hs2 hr hct
        go_enter Try.func39, Try.ntmps39
        go_wp2
        go_ret
        exact ⟨by rw [HR.out]; rfl, (fun e => by rw [HR.out] at e; cases e), Fr.refl _ _⟩
      · obtain ⟨c1, hc1⟩ : ∃ c1 : Nat, (c : Int) - (I.length : Int) = (c1 : Int) ∧ c = c1 + I.length := ⟨c - I.length, by omega, by omega⟩
        have hc1a := hc1.1
        have HC1 := hide hc1.2
        have gc : ¬ (c : Int) < (I.length : Int) := by omega
        have HCT := hide (hct.set c1)
        have HF0 : Hid (Fr (fun k => k = cb) w (w.setCell ⟨cb, 0, none⟩ (.int .i64 (c1 : Int)))) := hide (Fr.setCell (S := fun k => k = cb) (Fr.refl _ _) (fun _ => rfl) _ _)
        have HRR := hide hrr
        have HS2 := hide hs2
        have HR := hide hr
        have HU := hide hU
        have HC := hide hC
        clear hrr hs hs2 hr hct hU hC hc1
        go_enter Try.func39, Try.ntmps39
        go_wp2
        go_loopw [34] (fun u wr => ∃ i m : Nat, u = .int .i64 (i : Int) ∧ i ≤ I.length ∧ c1 = m + chA h I i ∧ CtAt wr cb m ∧ (∀ j (hj : j < I.length), j < i → goodD (h + 1) (dp + 1) I[j] = true) ∧ Fr (fun k => k = cb) w wr) (fun u _ => I.length - (intOf u).toNat)
        case atStart => exact ⟨0, c1, rfl, Nat.zero_le _, by simp [chA], HCT.out, fun j _ hj => by omega, HF0.out⟩
        case round =>
          clear HCT HF0 c0 z0
          obtain ⟨i, m, rfl, hi, hm, hct, hgd, hF⟩ := hrel
          by_cases hil : i < I.length
          · have hup := up_cb HU.out hcb hF
            obtain ⟨g, off, rfl, kk, km, kb, um, kt, ui, ur, hdat, -, -, -, e0, e1, e2, e3, e4, e5, e6⟩ := row_cells HR.out hup hil
            have hch := ch_succ I i hil
            have hbad : goodD (h + 1) (dp + 1) I[i] = false → I.all (goodD (h + 1) (dp + 1)) = false := fun e => all_bad hil e
            have hge := good_eq (dp := dp) I[i]
            have hcn := ch_le I (i + 1) hil
            have hgood : goodD (h + 1) (dp + 1) I[i] = true → ∀ j (hj : j < I.length), j < i + 1 → goodD (h + 1) (dp + 1) I[j] = true := fun e j hj hjk => by
              by_cases ej : j = i
              · subst ej; exact e
              · exact hgd j hj (by omega)
            generalize I[i] = d at *
            obtain ⟨k, n, b, Lm, t, II, RR⟩ := d
            obtain ⟨um', ui', ur', ecs, -, hM, hlim, hII, hRR⟩ := hdat
            obtain ⟨a1, p1, eum, hM'⟩ := hM
            obtain ⟨a2, p2, eui⟩ := hII.shape
            obtain ⟨a3, p3, eur⟩ := hRR.shape
            subst eum
            subst eui
            subst eur
            injection ecs with q0 ecs
            injection ecs with q1 ecs
            injection ecs with q2 ecs
            injection ecs with q3 ecs
            injection ecs with q4 ecs
            injection ecs with q5 ecs
            injection ecs with q6 ecs
            rw [q0] at e0
            rw [q1] at e1
            rw [q2] at e2
            rw [q3] at e3
            rw [q4] at e4
            rw [q5] at e5
            rw [q6] at e6
            clear ecs q0 q1 q2 q3 q4 q5 q6
            have hMS : Sl .u32 w0 (.slice a1 Lm.length p1) Lm.length (fun i => Lm.getD i 0) := ⟨a1, p1, rfl, hM'⟩
            have hcw : cb < wr.heap.size := hct.lt
            have hm20 : m ≤ 20000 := by have := HC1.out; omega
            obtain ⟨f1, hf1⟩ : ∃ x, x = fit1 (h := h) (k, n, b, Lm, t, II, RR) := ⟨_, rfl⟩
            obtain ⟨r1, hr1⟩ : ∃ x, x = (II.all (goodD h dp) && decide (ptsA h II ≤ m)) := ⟨_, rfl⟩
            obtain ⟨r2, hr2⟩ : ∃ x, x = (RR.all (goodD h dp) && decide (ptsA h RR ≤ m - ptsA h II)) := ⟨_, rfl⟩
            have HKF := hide (fun (W : World) (hf : Fr (fun _ => False) wr W) => show Calls Try.prog 53 #[.agg #[.int .i64 k, .int .i64 n, .bool b, .slice a1 Lm.length p1, .string t, .slice a2 II.length p2, .slice a3 RR.length p3]] W fun e w' => e = .returned (.bool f1) ∧ Fr (fun _ => False) W w' by rw [hf1]; exact fits_any w0 W k n b Lm t II RR a1 a2 a3 p1 p2 p3 hMS hlim hRR (up_new hup hf))
            have HK1 := hide (fun (W : World) (hf : Fr (fun _ => False) wr W) => show Calls Try.prog 39 #[.pointer (some ⟨cb, 0, none⟩), .slice a2 II.length p2, .int .i64 (dp : Int)] W fun e w' => DF W cb m (ptsA h II) r1 e w' by rw [hr1]; exact HC.out w0 W cb m II (.slice a2 II.length p2) dp hII (up_new hup hf) hcb (hct.fr hf) hm20 (by omega))
            have HK2 := hide (fun (W : World) (hf : Fr (fun k => k = cb) wr W) (hc : CtAt W cb (m - ptsA h II)) => show Calls Try.prog 39 #[.pointer (some ⟨cb, 0, none⟩), .slice a3 RR.length p3, .int .i64 (dp : Int)] W fun e w' => DF W cb (m - ptsA h II) (ptsA h RR) r2 e w' by rw [hr2]; exact HC.out w0 W cb (m - ptsA h II) RR (.slice a3 RR.length p3) dp hRR (up_cb hup hcb hf) hcb hc (by omega) (by omega))
            have HB0 : Hid (DBx (wr.alloc (.cells #[.int .i64 k, .int .i64 n, .bool b, .slice a1 Lm.length p1, .string t, .slice a2 II.length p2, .slice a3 RR.length p3] 64)) wr.heap.size (.int .i64 k) (.int .i64 n) (.bool b) (.slice a1 Lm.length p1) (.string t) (.slice a2 II.length p2) (.slice a3 RR.length p3)) := hide (heap_alloc_new wr _)
            replace hge : goodD (h + 1) (dp + 1) (k, n, b, Lm, t, II, RR) = (fit1 (h := h) (k, n, b, Lm, t, II, RR) && (II.all (goodD h dp) && RR.all (goodD h dp))) := hge
            rw [← hf1] at hge
            replace hch : chA h I (i + 1) = chA h I i + (ptsA h II + ptsA h RR) := hch
            have HFR := hide hF
            have hkI : (i : Int) < (I.length : Int) := by omega
            have edp : (((dp + 1 : Nat) : Int)) - 1 = (dp : Int) := by omega
            -- what is false
            have HN1 : Hid (f1 = false → r = false) := fun e => by
              have := hbad (by rw [hge, e]; rfl)
              rw [HRR.out, this]
              rfl
            have HN2 : Hid (r1 = false → r = false) := fun e => by
              rw [hr1, Bool.and_eq_false_iff] at e
              rw [HRR.out]
              rcases e with e | e
              · rw [hbad (by rw [hge, e]; simp)]
                rfl
              · have e := of_decide_eq_false e
                have := HS2.out
                have := HC1.out
                rw [decide_eq_false (by omega), Bool.and_false]
            have HN3 : Hid (r1 = true → r2 = false → r = false) := fun e' e => by
              rw [hr2, Bool.and_eq_false_iff] at e
              rw [hr1, Bool.and_eq_true, decide_eq_true_eq] at e'
              rw [HRR.out]
              rcases e with e | e
              · rw [hbad (by rw [hge, e]; simp)]
                rfl
              · have e := of_decide_eq_false e
                have := HS2.out
                have := HC1.out
                rw [decide_eq_false (by omega), Bool.and_false]
            have HY : Hid (f1 = true → r1 = true → r2 = true → c1 = (m - ptsA h II - ptsA h RR) + chA h I (i + 1) ∧ ∀ j (hj : j < I.length), j < i + 1 → goodD (h + 1) (dp + 1) I[j] = true) := fun e1 e2 e3 => by
              rw [hr1, Bool.and_eq_true, decide_eq_true_eq] at e2
              rw [hr2, Bool.and_eq_true, decide_eq_true_eq] at e3
              exact ⟨by omega, hgood (by rw [hge, e1, e2.1, e3.1]; rfl)⟩
            clear hch hbad hge hgood hcn hf1 hr1 hr2 hM' hMS hlim hII hRR hup hct hgd hF hm hm20
            cases f1
            · have HRF := hide (HN1.out rfl)
              go_wp2_with (first
                | (go_at_call 53; refine (HKF.out _ ((Fr.refl _ _).alloc _)).mono ?_; rintro e7 w7 ⟨rfl, F7⟩; have b7 := HB0.out.fr F7; have y70 := b7.k0; have y71 := b7.k1; have y72 := b7.k2; have y73 := b7.k3; have y74 := b7.k4; have y75 := b7.k5; have y76 := b7.k6; have HF7 := hide (Fr.trans (S := fun _ => False) ((Fr.refl _ wr).alloc _) F7 (fun _ _ e => e)); have HB7 := hide b7; clear F7 b7)
                | (go_at_call_of 39 (Value.slice a2 II.length p2); refine (HK1.out _ HF7.out).mono ?_; rintro e8 w8 ⟨rfl, hc8, F8⟩; have b8 := HB7.out.frc (Nat.ne_of_gt hcw) F8; have y80 := b8.k0; have y81 := b8.k1; have y82 := b8.k2; have y83 := b8.k3; have y84 := b8.k4; have y85 := b8.k5; have y86 := b8.k6; have HF8 := hide (Fr.trans (S := fun k => k = cb) (HF7.out.mono (fun _ _ e => e.elim)) F8 (fun _ _ e => e)); have HC8 := hide hc8; clear F8 b8 hc8)
                | (go_at_call_of 39 (Value.slice a3 RR.length p3); refine (HK2.out _ HF8.out (HC8.out (by first | rfl | trivial))).mono ?_; rintro e9 w9 ⟨rfl, hc9, F9⟩; have HF9 := hide (HF8.out.trans F9 (fun _ _ e => e)); have HC9 := hide hc9; clear F9 hc9))
              go_ret
              exact ⟨by rw [HRF.out]; rfl, (fun e => by rw [HRF.out] at e; cases e), HFR.out.trans (HF7.out.mono (fun _ _ e => e.elim)) (fun _ _ e => e)⟩
            · cases r1
              · have HRF := hide (HN2.out rfl)
                go_wp2_with (first
                | (go_at_call 53; refine (HKF.out _ ((Fr.refl _ _).alloc _)).mono ?_; rintro e7 w7 ⟨rfl, F7⟩; have b7 := HB0.out.fr F7; have y70 := b7.k0; have y71 := b7.k1; have y72 := b7.k2; have y73 := b7.k3; have y74 := b7.k4; have y75 := b7.k5; have y76 := b7.k6; have HF7 := hide (Fr.trans (S := fun _ => False) ((Fr.refl _ wr).alloc _) F7 (fun _ _ e => e)); have HB7 := hide b7; clear F7 b7)
                | (go_at_call_of 39 (Value.slice a2 II.length p2); refine (HK1.out _ HF7.out).mono ?_; rintro e8 w8 ⟨rfl, hc8, F8⟩; have b8 := HB7.out.frc (Nat.ne_of_gt hcw) F8; have y80 := b8.k0; have y81 := b8.k1; have y82 := b8.k2; have y83 := b8.k3; have y84 := b8.k4; have y85 := b8.k5; have y86 := b8.k6; have HF8 := hide (Fr.trans (S := fun k => k = cb) (HF7.out.mono (fun _ _ e => e.elim)) F8 (fun _ _ e => e)); have HC8 := hide hc8; clear F8 b8 hc8)
                | (go_at_call_of 39 (Value.slice a3 RR.length p3); refine (HK2.out _ HF8.out (HC8.out (by first | rfl | trivial))).mono ?_; rintro e9 w9 ⟨rfl, hc9, F9⟩; have HF9 := hide (HF8.out.trans F9 (fun _ _ e => e)); have HC9 := hide hc9; clear F9 hc9))
                go_ret
                exact ⟨by rw [HRF.out]; rfl, (fun e => by rw [HRF.out] at e; cases e), HFR.out.trans HF8.out (fun _ _ e => e)⟩
              · cases r2
                · have HRF := hide (HN3.out rfl rfl)
                  go_wp2_with (first
                | (go_at_call 53; refine (HKF.out _ ((Fr.refl _ _).alloc _)).mono ?_; rintro e7 w7 ⟨rfl, F7⟩; have b7 := HB0.out.fr F7; have y70 := b7.k0; have y71 := b7.k1; have y72 := b7.k2; have y73 := b7.k3; have y74 := b7.k4; have y75 := b7.k5; have y76 := b7.k6; have HF7 := hide (Fr.trans (S := fun _ => False) ((Fr.refl _ wr).alloc _) F7 (fun _ _ e => e)); have HB7 := hide b7; clear F7 b7)
                | (go_at_call_of 39 (Value.slice a2 II.length p2); refine (HK1.out _ HF7.out).mono ?_; rintro e8 w8 ⟨rfl, hc8, F8⟩; have b8 := HB7.out.frc (Nat.ne_of_gt hcw) F8; have y80 := b8.k0; have y81 := b8.k1; have y82 := b8.k2; have y83 := b8.k3; have y84 := b8.k4; have y85 := b8.k5; have y86 := b8.k6; have HF8 := hide (Fr.trans (S := fun k => k = cb) (HF7.out.mono (fun _ _ e => e.elim)) F8 (fun _ _ e => e)); have HC8 := hide hc8; clear F8 b8 hc8)
                | (go_at_call_of 39 (Value.slice a3 RR.length p3); refine (HK2.out _ HF8.out (HC8.out (by first | rfl | trivial))).mono ?_; rintro e9 w9 ⟨rfl, hc9, F9⟩; have HF9 := hide (HF8.out.trans F9 (fun _ _ e => e)); have HC9 := hide hc9; clear F9 hc9))
                  go_ret
                  exact ⟨by rw [HRF.out]; rfl, (fun e => by rw [HRF.out] at e; cases e), HFR.out.trans HF9.out (fun _ _ e => e)⟩
                · have hyy := HY.out rfl rfl rfl
                  have HYY := hide hyy
                  clear hyy
                  go_wp2_with (first
                | (go_at_call 53; refine (HKF.out _ ((Fr.refl _ _).alloc _)).mono ?_; rintro e7 w7 ⟨rfl, F7⟩; have b7 := HB0.out.fr F7; have y70 := b7.k0; have y71 := b7.k1; have y72 := b7.k2; have y73 := b7.k3; have y74 := b7.k4; have y75 := b7.k5; have y76 := b7.k6; have HF7 := hide (Fr.trans (S := fun _ => False) ((Fr.refl _ wr).alloc _) F7 (fun _ _ e => e)); have HB7 := hide b7; clear F7 b7)
                | (go_at_call_of 39 (Value.slice a2 II.length p2); refine (HK1.out _ HF7.out).mono ?_; rintro e8 w8 ⟨rfl, hc8, F8⟩; have b8 := HB7.out.frc (Nat.ne_of_gt hcw) F8; have y80 := b8.k0; have y81 := b8.k1; have y82 := b8.k2; have y83 := b8.k3; have y84 := b8.k4; have y85 := b8.k5; have y86 := b8.k6; have HF8 := hide (Fr.trans (S := fun k => k = cb) (HF7.out.mono (fun _ _ e => e.elim)) F8 (fun _ _ e => e)); have HC8 := hide hc8; clear F8 b8 hc8)
                | (go_at_call_of 39 (Value.slice a3 RR.length p3); refine (HK2.out _ HF8.out (HC8.out (by first | rfl | trivial))).mono ?_; rintro e9 w9 ⟨rfl, hc9, F9⟩; have HF9 := hide (HF8.out.trans F9 (fun _ _ e => e)); have HC9 := hide hc9; clear F9 hc9))
                  exact ⟨⟨i + 1, _, by go_num, hil, HYY.out.1, HC9.out (by first | rfl | trivial), HYY.out.2, HFR.out.trans HF9.out (fun _ _ e => e)⟩, by simp [intOf]; omega⟩
          · have e : i = I.length := by omega
            subst e
            have HRT : Hid (r = true) := by
              unfold Hid
              rw [HRR.out, Bool.and_eq_true, decide_eq_true_eq]
              refine ⟨?_, by have := HS2.out; have := HC1.out; omega⟩
              rw [List.all_eq_true]
              intro x hx
              obtain ⟨j, hj, rfl⟩ := List.getElem_of_mem hx
              exact hgd j hj hj
            have HCE : Hid (CtAt wr cb (c - s)) := by
              unfold Hid
              rw [show c - s = m from by have := HS2.out; have := HC1.out; omega]
              exact hct
            have HFR := hide hF
            have hil' : ¬ ((I.length : Int) < (I.length : Int)) := by omega
            clear hct hgd hF hm hil
            go_wp2
            go_ret
            exact ⟨by rw [HRT.out]; rfl, fun _ => HCE.out, HFR.out⟩
theorem dataFit_all : (h : Nat) → DFOK h
  | 0 => by
    intro w0 w cb c I v dp hr hU hcb hct hc hdp
    have hI0 : I = [] := by
      cases I with
      | nil => rfl
      | cons d I => exact (show Empty from d).elim
    subst hI0
    obtain ⟨ao, cap, rfl⟩ := hr.shape
    have HCT := hide hct
    clear hr hct
    go_enter Try.func39, Try.ntmps39
    go_wp2
    go_ret
    exact ⟨by simp [ptsA], fun _ => HCT.out, Fr.refl _ _⟩
  | h + 1 => dataFit_of (dataFit_all h)

end Go.Proofs.Ytilcigjhogcjkaa
