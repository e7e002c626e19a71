/-
  What is proved here: dataFit (package pack), walked. which programs may be written, and pack.Write of any protos that lie there. mayBeWritten, and pack.Write of any protos that lie there. tandemlaw00.CopyProtos, walked. pack.Write of any protos that lie there. the document's own numbers and texts as bytes (tandemref10): num, signed, some, bit, in, half. how many bytes a program has at the most; no walk. tandemlaw00's SameBytes of two rows of the same bytes, and a row of bytes as a string.
-/
import Derived.Test.YtilcigjhogcjkaaPZ6
import Derived.Test.YtilcigjhogcjkaaPZ4
import Derived.Test.YtilcigjhogcjkaaRows
import Derived.Test.YtilcigjhogcjkaaBase
import Derived.WalkKit
import Derived.ProofKit
import Derived.OpenShut
import Derived.ShutString
import Derived.ChangeOld
import Derived.Below
import Derived.SizedLaws
import Derived.Deep.DeepHandedRow
import Derived.Lib.LaidTab
import Derived.Test.YtilcigjhogcjkaaPZ2
import Derived.Test.YtilcigjhogcjkaaRLift
import Derived.Deep.Slices
import Derived.ChangeSame
import Derived.ChangeArms
namespace Go.Proofs.Ytilcigjhogcjkaa
open Go Go.RowKit

theorem DBx.frc {w w' : World} {B cb : Nat} {c0 c1 c2 c3 c4 c5 c6 : Value} (h : DBx w B c0 c1 c2 c3 c4 c5 c6) (hn : B ≠ cb) (hf : Fr (fun k => k = cb) w w') : DBx w' B c0 c1 c2 c3 c4 c5 c6 := (hf.block B (Array.getElem?_eq_some_iff.1 h).1 hn).trans h

set_option maxRecDepth 100000 in
set_option maxHeartbeats 4000000 in
theorem dataFit_of {h : Nat} (hC : DFOK h) : DFOK (h + 1) := by
  intro w0 w cb c I v dp hr hU hcb hct hc hdp
  obtain ⟨ao, cap, rfl⟩ := hr.shape
  have hIl : I.length ≤ cap ∧ cap ≤ 9223372036854775807 := by
    obtain ⟨ao', cap', e, h1, h2, -⟩ := hr
    cases e
    exact ⟨h1, h2⟩
  have hcl := hct.lt
  have c0 := hct.cell
  have z0 := hct.free
  obtain ⟨r, hrr⟩ : ∃ r, r = (I.all (goodD (h + 1) dp) && decide (ptsA (h + 1) I ≤ c)) := ⟨_, rfl⟩
  obtain ⟨s, hs⟩ : ∃ s, s = ptsA (h + 1) I := ⟨_, rfl⟩
  have hs2 := pts_len I
  rw [← hs] at hs2
  rw [← hrr, ← hs]
  rw [← hs] at hrr
  by_cases h0 : I.length = 0
  · have hI0 : I = [] := List.length_eq_zero_iff.1 h0
    have HR : Hid (r = true) := by
      unfold Hid
      rw [hrr, hI0]
      have : s = 0 := by rw [hs, hI0]; rfl
      simp [this]
    have HS : Hid (s = 0) := by unfold Hid; rw [hs, hI0]; rfl
    have g0 : ((I.length : Int) == 0) = true := by rw [h0]; rfl
    have HCT := hide hct
    clear hrr hs hs2 hr hct hI0 h0
    go_enter Try.func39, Try.ntmps39
    go_wp2
    go_ret
    exact ⟨by rw [HR.out]; rfl, fun _ => by rw [HS.out]; exact HCT.out, Fr.refl _ _⟩
  · have g0 : ((I.length : Int) == 0) = false := by rw [beq_eq_false_iff_ne]; omega
    cases dp with
    | zero =>
      have HR : Hid (r = false) := by
        unfold Hid
        rw [hrr, all_bad (i := 0) (by omega) rfl]
        rfl
      clear hrr hs hs2 hr hct
      go_enter Try.func39, Try.ntmps39
      go_wp2
      go_ret
      exact ⟨by rw [HR.out]; rfl, (fun e => by rw [HR.out] at e; cases e), Fr.refl _ _⟩
    | succ dp =>
      have gd : ((((dp + 1 : Nat) : Int)) == 0) = false := by rw [beq_eq_false_iff_ne]; omega
      by_cases hlc : c < I.length
      · have gc : (c : Int) < (I.length : Int) := by omega
        have HR : Hid (r = false) := by
          unfold Hid
          rw [hrr, decide_eq_false (by omega), Bool.and_false]
        clear hrr hs hs2 hr hct
        go_enter Try.func39, Try.ntmps39
        go_wp2
        go_ret
        exact ⟨by rw [HR.out]; rfl, (fun e => by rw [HR.out] at e; cases e), Fr.refl _ _⟩
      · obtain ⟨c1, hc1⟩ : ∃ c1 : Nat, (c : Int) - (I.length : Int) = (c1 : Int) ∧ c = c1 + I.length := ⟨c - I.length, by omega, by omega⟩
        have hc1a := hc1.1
        have HC1 := hide hc1.2
        have gc : ¬ (c : Int) < (I.length : Int) := by omega
        have HCT := hide (hct.set c1)
        have HF0 : Hid (Fr (fun k => k = cb) w (w.setCell ⟨cb, 0, none⟩ (.int .i64 (c1 : Int)))) := hide (Fr.setCell (S := fun k => k = cb) (Fr.refl _ _) (fun _ => rfl) _ _)
        have HRR := hide hrr
        have HS2 := hide hs2
        have HR := hide hr
        have HU := hide hU
        have HC := hide hC
        clear hrr hs hs2 hr hct hU hC hc1
        go_enter Try.func39, Try.ntmps39
        go_wp2
        go_loopw [34] (fun u wr => ∃ i m : Nat, u = .int .i64 (i : Int) ∧ i ≤ I.length ∧ c1 = m + chA h I i ∧ CtAt wr cb m ∧ (∀ j (hj : j < I.length), j < i → goodD (h + 1) (dp + 1) I[j] = true) ∧ Fr (fun k => k = cb) w wr) (fun u _ => I.length - (intOf u).toNat)
        case atStart => exact ⟨0, c1, rfl, Nat.zero_le _, by simp [chA], HCT.out, fun j _ hj => by omega, HF0.out⟩
        case round =>
          clear HCT HF0 c0 z0
          obtain ⟨i, m, rfl, hi, hm, hct, hgd, hF⟩ := hrel
          by_cases hil : i < I.length
          · have hup := up_cb HU.out hcb hF
            obtain ⟨g, off, rfl, kk, km, kb, um, kt, ui, ur, hdat, -, -, -, e0, e1, e2, e3, e4, e5, e6⟩ := row_cells HR.out hup hil
            have hch := ch_succ I i hil
            have hbad : goodD (h + 1) (dp + 1) I[i] = false → I.all (goodD (h + 1) (dp + 1)) = false := fun e => all_bad hil e
            have hge := good_eq (dp := dp) I[i]
            have hcn := ch_le I (i + 1) hil
            have hgood : goodD (h + 1) (dp + 1) I[i] = true → ∀ j (hj : j < I.length), j < i + 1 → goodD (h + 1) (dp + 1) I[j] = true := fun e j hj hjk => by
              by_cases ej : j = i
              · subst ej; exact e
              · exact hgd j hj (by omega)
            generalize I[i] = d at *
            obtain ⟨k, n, b, Lm, t, II, RR⟩ := d
            obtain ⟨um', ui', ur', ecs, -, hM, hlim, hII, hRR⟩ := hdat
            obtain ⟨a1, p1, eum, hM'⟩ := hM
            obtain ⟨a2, p2, eui⟩ := hII.shape
            obtain ⟨a3, p3, eur⟩ := hRR.shape
            subst eum
            subst eui
            subst eur
            injection ecs with q0 ecs
            injection ecs with q1 ecs
            injection ecs with q2 ecs
            injection ecs with q3 ecs
            injection ecs with q4 ecs
            injection ecs with q5 ecs
            injection ecs with q6 ecs
            rw [q0] at e0
            rw [q1] at e1
            rw [q2] at e2
            rw [q3] at e3
            rw [q4] at e4
            rw [q5] at e5
            rw [q6] at e6
            clear ecs q0 q1 q2 q3 q4 q5 q6
            have hMS : Sl .u32 w0 (.slice a1 Lm.length p1) Lm.length (fun i => Lm.getD i 0) := ⟨a1, p1, rfl, hM'⟩
            have hcw : cb < wr.heap.size := hct.lt
            have hm20 : m ≤ 20000 := by have := HC1.out; omega
            obtain ⟨f1, hf1⟩ : ∃ x, x = fit1 (h := h) (k, n, b, Lm, t, II, RR) := ⟨_, rfl⟩
            obtain ⟨r1, hr1⟩ : ∃ x, x = (II.all (goodD h dp) && decide (ptsA h II ≤ m)) := ⟨_, rfl⟩
            obtain ⟨r2, hr2⟩ : ∃ x, x = (RR.all (goodD h dp) && decide (ptsA h RR ≤ m - ptsA h II)) := ⟨_, rfl⟩
            have HKF := hide (fun (W : World) (hf : Fr (fun _ => False) wr W) => show Calls Try.prog 53 #[.agg #[.int .i64 k, .int .i64 n, .bool b, .slice a1 Lm.length p1, .string t, .slice a2 II.length p2, .slice a3 RR.length p3]] W fun e w' => e = .returned (.bool f1) ∧ Fr (fun _ => False) W w' by rw [hf1]; exact fits_any w0 W k n b Lm t II RR a1 a2 a3 p1 p2 p3 hMS hlim hRR (up_new hup hf))
            have HK1 := hide (fun (W : World) (hf : Fr (fun _ => False) wr W) => show Calls Try.prog 39 #[.pointer (some ⟨cb, 0, none⟩), .slice a2 II.length p2, .int .i64 (dp : Int)] W fun e w' => DF W cb m (ptsA h II) r1 e w' by rw [hr1]; exact HC.out w0 W cb m II (.slice a2 II.length p2) dp hII (up_new hup hf) hcb (hct.fr hf) hm20 (by omega))
            have HK2 := hide (fun (W : World) (hf : Fr (fun k => k = cb) wr W) (hc : CtAt W cb (m - ptsA h II)) => show Calls Try.prog 39 #[.pointer (some ⟨cb, 0, none⟩), .slice a3 RR.length p3, .int .i64 (dp : Int)] W fun e w' => DF W cb (m - ptsA h II) (ptsA h RR) r2 e w' by rw [hr2]; exact HC.out w0 W cb (m - ptsA h II) RR (.slice a3 RR.length p3) dp hRR (up_cb hup hcb hf) hcb hc (by omega) (by omega))
            have HB0 : Hid (DBx (wr.alloc (.cells #[.int .i64 k, .int .i64 n, .bool b, .slice a1 Lm.length p1, .string t, .slice a2 II.length p2, .slice a3 RR.length p3] 64)) wr.heap.size (.int .i64 k) (.int .i64 n) (.bool b) (.slice a1 Lm.length p1) (.string t) (.slice a2 II.length p2) (.slice a3 RR.length p3)) := hide (heap_alloc_new wr _)
            replace hge : goodD (h + 1) (dp + 1) (k, n, b, Lm, t, II, RR) = (fit1 (h := h) (k, n, b, Lm, t, II, RR) && (II.all (goodD h dp) && RR.all (goodD h dp))) := hge
            rw [← hf1] at hge
            replace hch : chA h I (i + 1) = chA h I i + (ptsA h II + ptsA h RR) := hch
            have HFR := hide hF
            have hkI : (i : Int) < (I.length : Int) := by omega
            have edp : (((dp + 1 : Nat) : Int)) - 1 = (dp : Int) := by omega
            -- what is false
            have HN1 : Hid (f1 = false → r = false) := fun e => by
              have := hbad (by rw [hge, e]; rfl)
              rw [HRR.out, this]
              rfl
            have HN2 : Hid (r1 = false → r = false) := fun e => by
              rw [hr1, Bool.and_eq_false_iff] at e
              rw [HRR.out]
              rcases e with e | e
              · rw [hbad (by rw [hge, e]; simp)]
                rfl
              · have e := of_decide_eq_false e
                have := HS2.out
                have := HC1.out
                rw [decide_eq_false (by omega), Bool.and_false]
            have HN3 : Hid (r1 = true → r2 = false → r = false) := fun e' e => by
              rw [hr2, Bool.and_eq_false_iff] at e
              rw [hr1, Bool.and_eq_true, decide_eq_true_eq] at e'
              rw [HRR.out]
              rcases e with e | e
              · rw [hbad (by rw [hge, e]; simp)]
                rfl
              · have e := of_decide_eq_false e
                have := HS2.out
                have := HC1.out
                rw [decide_eq_false (by omega), Bool.and_false]
            have HY : Hid (f1 = true → r1 = true → r2 = true → c1 = (m - ptsA h II - ptsA h RR) + chA h I (i + 1) ∧ ∀ j (hj : j < I.length), j < i + 1 → goodD (h + 1) (dp + 1) I[j] = true) := fun e1 e2 e3 => by
              rw [hr1, Bool.and_eq_true, decide_eq_true_eq] at e2
              rw [hr2, Bool.and_eq_true, decide_eq_true_eq] at e3
              exact ⟨by omega, hgood (by rw [hge, e1, e2.1, e3.1]; rfl)⟩
            clear hch hbad hge hgood hcn hf1 hr1 hr2 hM' hMS hlim hII hRR hup hct hgd hF hm hm20
            cases f1
            · have HRF := hide (HN1.out rfl)
              go_wp2_with (first
                | (go_at_call 53; refine (HKF.out _ ((Fr.refl _ _).alloc _)).mono ?_; rintro e7 w7 ⟨rfl, F7⟩; have b7 := HB0.out.fr F7; have y70 := b7.k0; have y71 := b7.k1; have y72 := b7.k2; have y73 := b7.k3; have y74 := b7.k4; have y75 := b7.k5; have y76 := b7.k6; have HF7 := hide (Fr.trans (S := fun _ => False) ((Fr.refl _ wr).alloc _) F7 (fun _ _ e => e)); have HB7 := hide b7; clear F7 b7)
                | (go_at_call_of 39 (Value.slice a2 II.length p2); refine (HK1.out _ HF7.out).mono ?_; rintro e8 w8 ⟨rfl, hc8, F8⟩; have b8 := HB7.out.frc (Nat.ne_of_gt hcw) F8; have y80 := b8.k0; have y81 := b8.k1; have y82 := b8.k2; have y83 := b8.k3; have y84 := b8.k4; have y85 := b8.k5; have y86 := b8.k6; have HF8 := hide (Fr.trans (S := fun k => k = cb) (HF7.out.mono (fun _ _ e => e.elim)) F8 (fun _ _ e => e)); have HC8 := hide hc8; clear F8 b8 hc8)
                | (go_at_call_of 39 (Value.slice a3 RR.length p3); refine (HK2.out _ HF8.out (HC8.out (by first | rfl | trivial))).mono ?_; rintro e9 w9 ⟨rfl, hc9, F9⟩; have HF9 := hide (HF8.out.trans F9 (fun _ _ e => e)); have HC9 := hide hc9; clear F9 hc9))
              go_ret
              exact ⟨by rw [HRF.out]; rfl, (fun e => by rw [HRF.out] at e; cases e), HFR.out.trans (HF7.out.mono (fun _ _ e => e.elim)) (fun _ _ e => e)⟩
            · cases r1
              · have HRF := hide (HN2.out rfl)
                go_wp2_with (first
                | (go_at_call 53; refine (HKF.out _ ((Fr.refl _ _).alloc _)).mono ?_; rintro e7 w7 ⟨rfl, F7⟩; have b7 := HB0.out.fr F7; have y70 := b7.k0; have y71 := b7.k1; have y72 := b7.k2; have y73 := b7.k3; have y74 := b7.k4; have y75 := b7.k5; have y76 := b7.k6; have HF7 := hide (Fr.trans (S := fun _ => False) ((Fr.refl _ wr).alloc _) F7 (fun _ _ e => e)); have HB7 := hide b7; clear F7 b7)
                | (go_at_call_of 39 (Value.slice a2 II.length p2); refine (HK1.out _ HF7.out).mono ?_; rintro e8 w8 ⟨rfl, hc8, F8⟩; have b8 := HB7.out.frc (Nat.ne_of_gt hcw) F8; have y80 := b8.k0; have y81 := b8.k1; have y82 := b8.k2; have y83 := b8.k3; have y84 := b8.k4; have y85 := b8.k5; have y86 := b8.k6; have HF8 := hide (Fr.trans (S := fun k => k = cb) (HF7.out.mono (fun _ _ e => e.elim)) F8 (fun _ _ e => e)); have HC8 := hide hc8; clear F8 b8 hc8)
                | (go_at_call_of 39 (Value.slice a3 RR.length p3); refine (HK2.out _ HF8.out (HC8.out (by first | rfl | trivial))).mono ?_; rintro e9 w9 ⟨rfl, hc9, F9⟩; have HF9 := hide (HF8.out.trans F9 (fun _ _ e => e)); have HC9 := hide hc9; clear F9 hc9))
                go_ret
                exact ⟨by rw [HRF.out]; rfl, (fun e => by rw [HRF.out] at e; cases e), HFR.out.trans HF8.out (fun _ _ e => e)⟩
              · cases r2
                · have HRF := hide (HN3.out rfl rfl)
                  go_wp2_with (first
                | (go_at_call 53; refine (HKF.out _ ((Fr.refl _ _).alloc _)).mono ?_; rintro e7 w7 ⟨rfl, F7⟩; have b7 := HB0.out.fr F7; have y70 := b7.k0; have y71 := b7.k1; have y72 := b7.k2; have y73 := b7.k3; have y74 := b7.k4; have y75 := b7.k5; have y76 := b7.k6; have HF7 := hide (Fr.trans (S := fun _ => False) ((Fr.refl _ wr).alloc _) F7 (fun _ _ e => e)); have HB7 := hide b7; clear F7 b7)
                | (go_at_call_of 39 (Value.slice a2 II.length p2); refine (HK1.out _ HF7.out).mono ?_; rintro e8 w8 ⟨rfl, hc8, F8⟩; have b8 := HB7.out.frc (Nat.ne_of_gt hcw) F8; have y80 := b8.k0; have y81 := b8.k1; have y82 := b8.k2; have y83 := b8.k3; have y84 := b8.k4; have y85 := b8.k5; have y86 := b8.k6; have HF8 := hide (Fr.trans (S := fun k => k = cb) (HF7.out.mono (fun _ _ e => e.elim)) F8 (fun _ _ e => e)); have HC8 := hide hc8; clear F8 b8 hc8)
                | (go_at_call_of 39 (Value.slice a3 RR.length p3); refine (HK2.out _ HF8.out (HC8.out (by first | rfl | trivial))).mono ?_; rintro e9 w9 ⟨rfl, hc9, F9⟩; have HF9 := hide (HF8.out.trans F9 (fun _ _ e => e)); have HC9 := hide hc9; clear F9 hc9))
                  go_ret
                  exact ⟨by rw [HRF.out]; rfl, (fun e => by rw [HRF.out] at e; cases e), HFR.out.trans HF9.out (fun _ _ e => e)⟩
                · have hyy := HY.out rfl rfl rfl
                  have HYY := hide hyy
                  clear hyy
                  go_wp2_with (first
                | (go_at_call 53; refine (HKF.out _ ((Fr.refl _ _).alloc _)).mono ?_; rintro e7 w7 ⟨rfl, F7⟩; have b7 := HB0.out.fr F7; have y70 := b7.k0; have y71 := b7.k1; have y72 := b7.k2; have y73 := b7.k3; have y74 := b7.k4; have y75 := b7.k5; have y76 := b7.k6; have HF7 := hide (Fr.trans (S := fun _ => False) ((Fr.refl _ wr).alloc _) F7 (fun _ _ e => e)); have HB7 := hide b7; clear F7 b7)
                | (go_at_call_of 39 (Value.slice a2 II.length p2); refine (HK1.out _ HF7.out).mono ?_; rintro e8 w8 ⟨rfl, hc8, F8⟩; have b8 := HB7.out.frc (Nat.ne_of_gt hcw) F8; have y80 := b8.k0; have y81 := b8.k1; have y82 := b8.k2; have y83 := b8.k3; have y84 := b8.k4; have y85 := b8.k5; have y86 := b8.k6; have HF8 := hide (Fr.trans (S := fun k => k = cb) (HF7.out.mono (fun _ _ e => e.elim)) F8 (fun _ _ e => e)); have HC8 := hide hc8; clear F8 b8 hc8)
                | (go_at_call_of 39 (Value.slice a3 RR.length p3); refine (HK2.out _ HF8.out (HC8.out (by first | rfl | trivial))).mono ?_; rintro e9 w9 ⟨rfl, hc9, F9⟩; have HF9 := hide (HF8.out.trans F9 (fun _ _ e => e)); have HC9 := hide hc9; clear F9 hc9))
                  exact ⟨⟨i + 1, _, by go_num, hil, HYY.out.1, HC9.out (by first | rfl | trivial), HYY.out.2, HFR.out.trans HF9.out (fun _ _ e => e)⟩, by simp [intOf]; omega⟩
          · have e : i = I.length := by omega
            subst e
            have HRT : Hid (r = true) := by
              unfold Hid
              rw [HRR.out, Bool.and_eq_true, decide_eq_true_eq]
              refine ⟨?_, by have := HS2.out; have := HC1.out; omega⟩
              rw [List.all_eq_true]
              intro x hx
              obtain ⟨j, hj, rfl⟩ := List.getElem_of_mem hx
              exact hgd j hj hj
            have HCE : Hid (CtAt wr cb (c - s)) := by
              unfold Hid
              rw [show c - s = m from by have := HS2.out; have := HC1.out; omega]
              exact hct
            have HFR := hide hF
            have hil' : ¬ ((I.length : Int) < (I.length : Int)) := by omega
            clear hct hgd hF hm hil
            go_wp2
            go_ret
            exact ⟨by rw [HRT.out]; rfl, fun _ => HCE.out, HFR.out⟩

theorem dataFit_all : (h : Nat) → DFOK h
  | 0 => by
    intro w0 w cb c I v dp hr hU hcb hct hc hdp
    have hI0 : I = [] := by
      cases I with
      | nil => rfl
      | cons d I => exact (show Empty from d).elim
    subst hI0
    obtain ⟨ao, cap, rfl⟩ := hr.shape
    have HCT := hide hct
    clear hr hct
    go_enter Try.func39, Try.ntmps39
    go_wp2
    go_ret
    exact ⟨by simp [ptsA], fun _ => HCT.out, Fr.refl _ _⟩
  | h + 1 => dataFit_of (dataFit_all h)

set_option maxRecDepth 100000 in
set_option maxHeartbeats 1000000 in
theorem codeFits_any (w0 w : World) (co : Option Addr) (cc : Nat) (l : List (Int × Int × Int)) (hco : CodeL w0 co cc l) (hU : Up w0 w) :
    Calls Try.prog 38 #[.slice co l.length cc] w fun e w' => e = .returned (.bool (l.all goodI)) ∧ Fr (fun _ => False) w w' := by
  have hc1 := hco.1
  have hc2 := hco.2.1
  obtain ⟨r, hr⟩ : ∃ r, r = l.all goodI := ⟨_, rfl⟩
  rw [← hr]
  have HRR := hide hr
  have HCO := hide hco
  have HU := hide hU
  clear hr hco hU
  go_enter Try.func38, Try.ntmps38
  go_wp2
  go_loopw [7] (fun u wr => ∃ i : Nat, u = .int .i64 (i : Int) ∧ i ≤ l.length ∧ (∀ j (hj : j < l.length), j < i → goodI l[j] = true) ∧ Fr (fun _ => False) w wr) (fun u _ => l.length - (intOf u).toNat)
  case atStart => exact ⟨0, rfl, Nat.zero_le _, (fun j _ hj => by omega), Fr.refl _ _⟩
  case round =>
    obtain ⟨i, rfl, hi, hgd, hF⟩ := hrel
    by_cases hil : i < l.length
    · obtain ⟨g, off, ea, d0, d1, d2⟩ : ∃ g off, co = some ⟨g, off, none⟩ ∧ wr.cell? ⟨g, off + i * 3, none⟩ = some (.int .i64 l[i].1) ∧ wr.cell? ⟨g, off + i * 3 + 1, none⟩ = some (.int .i64 l[i].2.1) ∧ wr.cell? ⟨g, off + i * 3 + 2, none⟩ = some (.int .i64 l[i].2.2) := by
        rcases (HCO.out.up (up_new HU.out hF)).2.2 with e | ⟨g, off, ea, hc⟩
        · omega
        · exact ⟨g, off, ea, hc i hil⟩
      subst ea
      have hbad : goodI l[i] = false → r = false := fun e => by rw [HRR.out]; exact all_bad hil e
      have hgood : goodI l[i] = true → ∀ j (hj : j < l.length), j < i + 1 → goodI l[j] = true := fun e j hj hjk => by
        by_cases ej : j = i
        · subst ej; exact e
        · exact hgd j hj (by omega)
      generalize l[i] = x at *
      unfold goodI at hbad hgood
      have HI1 := hide (fun (W : World) => isNumber_any x.1 W)
      have HI2 := hide (fun (W : World) => isSigned_any x.2.1 W)
      have HI3 := hide (fun (W : World) => isSigned_any x.2.2 W)
      generalize isNum x.1 = b1 at *
      generalize half x.2.1 = b2 at *
      generalize half x.2.2 = b3 at *
      have HBD := hide hbad
      have HGD := hide hgood
      have HFR := hide (hF.alloc (.cells #[.int .i64 x.1, .int .i64 x.2.1, .int .i64 x.2.2] 50))
      have hkI : (i : Int) < (l.length : Int) := by omega
      clear hbad hgood hgd hF
      cases b1
      · have HF := hide (HBD.out rfl)
        go_wp2_with (go_at_call 37; refine (HI1.out _).mono ?_; rintro e7 w7 ⟨rfl, rfl⟩)
        go_ret
        exact ⟨by rw [HF.out]; rfl, HFR.out⟩
      · cases b2
        · have HF := hide (HBD.out rfl)
          go_wp2_with (first
            | (go_at_call 37; refine (HI1.out _).mono ?_; rintro e7 w7 ⟨rfl, rfl⟩)
            | (go_at_call_of 52 (Value.int IntKind.i64 x.2.1); refine (HI2.out _).mono ?_; rintro e7 w7 ⟨rfl, rfl⟩))
          go_ret
          exact ⟨by rw [HF.out]; rfl, HFR.out⟩
        · cases b3
          · have HF := hide (HBD.out rfl)
            go_wp2_with (first
              | (go_at_call 37; refine (HI1.out _).mono ?_; rintro e7 w7 ⟨rfl, rfl⟩)
              | (go_at_call_of 52 (Value.int IntKind.i64 x.2.1); refine (HI2.out _).mono ?_; rintro e7 w7 ⟨rfl, rfl⟩)
              | (go_at_call_of 52 (Value.int IntKind.i64 x.2.2); refine (HI3.out _).mono ?_; rintro e7 w7 ⟨rfl, rfl⟩))
            go_ret
            exact ⟨by rw [HF.out]; rfl, HFR.out⟩
          · have HG := hide (HGD.out rfl)
            go_wp2_with (first
              | (go_at_call 37; refine (HI1.out _).mono ?_; rintro e7 w7 ⟨rfl, rfl⟩)
              | (go_at_call_of 52 (Value.int IntKind.i64 x.2.1); refine (HI2.out _).mono ?_; rintro e7 w7 ⟨rfl, rfl⟩)
              | (go_at_call_of 52 (Value.int IntKind.i64 x.2.2); refine (HI3.out _).mono ?_; rintro e7 w7 ⟨rfl, rfl⟩))
            exact ⟨⟨i + 1, by go_num, hil, HG.out, HFR.out⟩, by simp [intOf]; omega⟩
    · have e : i = l.length := by omega
      subst e
      have HT : Hid (r = true) := by
        unfold Hid
        rw [HRR.out, List.all_eq_true]
        intro x hx
        obtain ⟨j, hj, rfl⟩ := List.getElem_of_mem hx
        exact hgd j hj hj
      have HFR := hide hF
      have hil' : ¬ ((l.length : Int) < (l.length : Int)) := by omega
      clear hgd hF hil
      go_wp2
      go_ret
      exact ⟨by rw [HT.out]; rfl, HFR.out⟩

/-- The parts of the constants of the first i protos. -/
def kA {N : Nat} (ps : List (PC N)) (i : Nat) : Nat := ((ps.take i).map fun p => ptsA N p.ks).sum

theorem kA_succ {N : Nat} (ps : List (PC N)) (i : Nat) (hi : i < ps.length) : kA ps (i + 1) = kA ps i + ptsA N ps[i].ks := by
  unfold kA
  rw [List.take_add_one, List.getElem?_eq_getElem hi, List.map_append, List.sum_append]
  simp

theorem kA_le {N : Nat} (ps : List (PC N)) (i : Nat) : kA ps i ≤ kA ps ps.length := by
  unfold kA
  rw [List.take_length]
  have e : ps.map (fun p => ptsA N p.ks) = (ps.take i).map (fun p => ptsA N p.ks) ++ (ps.drop i).map (fun p => ptsA N p.ks) := by rw [← List.map_append, List.take_append_drop]
  rw [e, List.sum_append]
  omega

/-- May a program be written? -/
def mayW {N : Nat} (ps : List (PC N)) : Bool := ps.all goodP && decide (kA ps ps.length ≤ 20000)

theorem PBx.fr {w w' : World} {B : Nat} {c0 c1 c2 c3 c4 c5 c6 : Value} (h : PBx w B c0 c1 c2 c3 c4 c5 c6) (hf : Fr (fun _ => False) w w') : PBx w' B c0 c1 c2 c3 c4 c5 c6 := (hf.block B (Array.getElem?_eq_some_iff.1 h).1 (fun e => e)).trans h

theorem fr_box {w w' : World} {o : Obj} (h : Fr (fun k => k = w.heap.size) (w.alloc o) w') : Fr (fun _ => False) w w' := Fr.trans (S := fun _ => False) ((Fr.refl _ w).alloc o) h (fun x hx e => by omega)

theorem Fr.upw' {w w' : World} (h : Fr (fun _ => False) w w') : Up w w' := ⟨h.os, h.tape, h.output, h.size, fun k hk => h.block k hk (fun e => e)⟩

set_option maxRecDepth 100000 in
set_option maxHeartbeats 2000000 in
theorem mayBe_any {N : Nat} (w : World) (ps : List (PC N)) (v : Value) (hr : RowD w (PCell w) v ps) :
    Calls Try.prog 18 #[v] w fun e w' => e = .returned (.bool (mayW ps)) ∧ Fr (fun _ => False) w w' := by
  obtain ⟨ao, cap, rfl⟩ := hr.shape
  have hIl : ps.length ≤ cap ∧ cap ≤ 9223372036854775807 := by
    obtain ⟨ao', cap', e, h1, h2, -⟩ := hr
    cases e
    exact ⟨h1, h2⟩
  obtain ⟨r, hrr⟩ : ∃ r, r = mayW ps := ⟨_, rfl⟩
  rw [← hrr]
  have HRR := hide hrr
  have HR := hide hr
  have HCT : Hid (CtAt (w.alloc (.cells #[.int .i64 20000] 78)) w.heap.size 20000) := hide (heap_alloc_new w _)
  clear hrr hr
  go_enter Try.func18, Try.ntmps18
  go_wp2
  go_loopw [9] (fun u wr => ∃ i m : Nat, u = .int .i64 (i : Int) ∧ i ≤ ps.length ∧ 20000 = m + kA ps i ∧ CtAt wr w.heap.size m ∧ (∀ j (hj : j < ps.length), j < i → goodP ps[j] = true) ∧ Fr (fun k => k = w.heap.size) (w.alloc (.cells #[.int .i64 20000] 78)) wr) (fun u _ => ps.length - (intOf u).toNat)
  case atStart => exact ⟨0, 20000, rfl, Nat.zero_le _, by simp [kA], HCT.out, (fun j _ hj => by omega), Fr.refl _ _⟩
  case round =>
    clear HCT
    obtain ⟨i, m, rfl, hi, hm, hct, hgd, hF⟩ := hrel
    have hup : Up w wr := (fr_box hF).upw'
    by_cases hil : i < ps.length
    · obtain ⟨g, off, rfl, co, cc, ka, kc, na, nc, hd, e0, e1, e2, e3, e4, e5, e6⟩ := proto_cells HR.out hup hil
      have hch := kA_succ ps i hil
      have hcn := kA_le ps (i + 1)
      have hbad : goodP ps[i] = false → ps.all goodP = false := fun e => all_bad hil e
      have hgood : goodP ps[i] = true → ∀ j (hj : j < ps.length), j < i + 1 → goodP ps[j] = true := fun e j hj hjk => by
        by_cases ej : j = i
        · subst ej; exact e
        · exact hgd j hj (by omega)
      generalize ps[i] = p at *
      obtain ⟨co', cc', ka', kc', na', nc', ecs, hco, hks, hns⟩ := hd
      injection ecs with q0 ecs
      injection ecs with q1 ecs
      injection ecs with q2 ecs
      injection ecs with q3 ecs
      injection ecs with q4 ecs
      injection ecs with q5 ecs
      rw [q4] at e4
      rw [q5] at e5
      injection q4 with qa qb qc
      injection q5 with qd qe qf
      subst qa qc qd qf
      clear ecs q0 q1 q2 q3 qb qe
      have hcw : w.heap.size < wr.heap.size := hct.lt
      have hm20 : m ≤ 20000 := by omega
      obtain ⟨b4, hb4⟩ : ∃ x, x = (p.ks.all (goodD N 100) && decide (ptsA N p.ks ≤ m)) := ⟨_, rfl⟩
      have HI1 := hide (fun (W : World) => isNumber_any p.args W)
      have HI2 := hide (fun (W : World) => isNumber_any p.free W)
      have HI3 := hide (fun (W : World) (hf : Fr (fun _ => False) wr W) => codeFits_any w W co cc p.code hco (up_new hup hf))
      have HI4 := hide (fun (W : World) (hf : Fr (fun _ => False) wr W) => show Calls Try.prog 39 #[.pointer (some ⟨w.heap.size, 0, none⟩), .slice ka p.ks.length kc, .int .i64 100] W fun e w' => DF W w.heap.size m (ptsA N p.ks) b4 e w' by rw [hb4]; exact dataFit_all N w W w.heap.size m p.ks (.slice ka p.ks.length kc) 100 hks (up_new hup hf) (Nat.le_refl _) (hct.fr hf) hm20 (Nat.le_refl _))
      have HB0 : Hid (PBx (wr.alloc (.cells #[.string p.nm, .int .i64 p.args, .int .i64 p.free, .bool p.rest, .slice co p.code.length cc, .slice ka p.ks.length kc, .slice na p.ns.length nc] 48)) wr.heap.size (.string p.nm) (.int .i64 p.args) (.int .i64 p.free) (.bool p.rest) (.slice co p.code.length cc) (.slice ka p.ks.length kc) (.slice na p.ns.length nc)) := hide (heap_alloc_new wr _)
      have HFR := hide hF
      have hkI : (i : Int) < (ps.length : Int) := by omega
      have HX : Hid (goodP p = (isNum p.args && (isNum p.free && (p.code.all goodI && p.ks.all (goodD N 100))))) := rfl
      generalize isNum p.args = b1 at *
      generalize isNum p.free = b2 at *
      generalize p.code.all goodI = b3 at *
      have HBD : Hid ((b1 && (b2 && (b3 && b4))) = false → r = false) := fun e => by
        rw [HRR.out]
        unfold mayW
        cases hx : p.ks.all (goodD N 100) with
        | false => rw [hbad (by rw [HX.out, hx]; simp)]; rfl
        | true =>
          rw [hx, Bool.true_and] at hb4
          by_cases hp : ptsA N p.ks ≤ m
          · rw [hb4, decide_eq_true hp] at e
            rw [hbad (by rw [HX.out, hx]; exact e)]
            rfl
          · rw [decide_eq_false (by omega), Bool.and_false]
      have HGD : Hid ((b1 && (b2 && (b3 && b4))) = true → 20000 = (m - ptsA N p.ks) + kA ps (i + 1) ∧ ∀ j (hj : j < ps.length), j < i + 1 → goodP ps[j] = true) := fun e => by
        simp only [Bool.and_eq_true] at e
        obtain ⟨f1, f2, f3, f4⟩ := e
        rw [hb4, Bool.and_eq_true, decide_eq_true_eq] at f4
        exact ⟨by omega, hgood (by rw [HX.out, f1, f2, f3, f4.1]; rfl)⟩
      clear hch hcn hbad hgood hgd hF hct hm hm20 hb4 hco hks hns hup HX
      cases b1
      · have HF := hide (HBD.out (by simp))
        go_wp2_with (first
          | (go_at_call_of 37 (Value.int IntKind.i64 p.args); refine (HI1.out _).mono ?_; rintro e5 w5 ⟨rfl, rfl⟩)
          | (go_at_call_of 37 (Value.int IntKind.i64 p.free); refine (HI2.out _).mono ?_; rintro e6 w6 ⟨rfl, rfl⟩)
          | (go_at_call 38; refine (HI3.out _ ((Fr.refl _ _).alloc _)).mono ?_; rintro e7 w7 ⟨rfl, F7⟩; have b7 := HB0.out.fr F7; have y70 := b7.k0; have y71 := b7.k1; have y72 := b7.k2; have y73 := b7.k3; have y74 := b7.k4; have y75 := b7.k5; have y76 := b7.k6; have HF7 := hide (Fr.trans (S := fun _ => False) ((Fr.refl _ wr).alloc _) F7 (fun _ _ e => e)); clear F7 b7)
          | (go_at_call 39; refine (HI4.out _ HF7.out).mono ?_; rintro e8 w8 ⟨rfl, hc8, F8⟩; have HF8 := hide (Fr.trans (S := fun k => k = w.heap.size) (HF7.out.mono (fun _ _ e => e.elim)) F8 (fun _ _ e => e)); have HC8 := hide hc8; clear F8 hc8))
        go_ret
        exact ⟨by rw [HF.out]; rfl, fr_box (HFR.out.trans ((Fr.refl (fun _ => False) wr).alloc (.cells #[.string p.nm, .int .i64 p.args, .int .i64 p.free, .bool p.rest, .slice co p.code.length cc, .slice ka p.ks.length kc, .slice na p.ns.length nc] 48)) (fun _ _ e => e.elim))⟩
      · cases b2
        · have HF := hide (HBD.out (by simp))
          go_wp2_with (first
            | (go_at_call_of 37 (Value.int IntKind.i64 p.args); refine (HI1.out _).mono ?_; rintro e5 w5 ⟨rfl, rfl⟩)
            | (go_at_call_of 37 (Value.int IntKind.i64 p.free); refine (HI2.out _).mono ?_; rintro e6 w6 ⟨rfl, rfl⟩)
            | (go_at_call 38; refine (HI3.out _ ((Fr.refl _ _).alloc _)).mono ?_; rintro e7 w7 ⟨rfl, F7⟩; have b7 := HB0.out.fr F7; have y70 := b7.k0; have y71 := b7.k1; have y72 := b7.k2; have y73 := b7.k3; have y74 := b7.k4; have y75 := b7.k5; have y76 := b7.k6; have HF7 := hide (Fr.trans (S := fun _ => False) ((Fr.refl _ wr).alloc _) F7 (fun _ _ e => e)); clear F7 b7)
            | (go_at_call 39; refine (HI4.out _ HF7.out).mono ?_; rintro e8 w8 ⟨rfl, hc8, F8⟩; have HF8 := hide (Fr.trans (S := fun k => k = w.heap.size) (HF7.out.mono (fun _ _ e => e.elim)) F8 (fun _ _ e => e)); have HC8 := hide hc8; clear F8 hc8))
          go_ret
          exact ⟨by rw [HF.out]; rfl, fr_box (HFR.out.trans ((Fr.refl (fun _ => False) wr).alloc (.cells #[.string p.nm, .int .i64 p.args, .int .i64 p.free, .bool p.rest, .slice co p.code.length cc, .slice ka p.ks.length kc, .slice na p.ns.length nc] 48)) (fun _ _ e => e.elim))⟩
        · cases b3
          · have HF := hide (HBD.out (by simp))
            go_wp2_with (first
              | (go_at_call_of 37 (Value.int IntKind.i64 p.args); refine (HI1.out _).mono ?_; rintro e5 w5 ⟨rfl, rfl⟩)
              | (go_at_call_of 37 (Value.int IntKind.i64 p.free); refine (HI2.out _).mono ?_; rintro e6 w6 ⟨rfl, rfl⟩)
              | (go_at_call 38; refine (HI3.out _ ((Fr.refl _ _).alloc _)).mono ?_; rintro e7 w7 ⟨rfl, F7⟩; have b7 := HB0.out.fr F7; have y70 := b7.k0; have y71 := b7.k1; have y72 := b7.k2; have y73 := b7.k3; have y74 := b7.k4; have y75 := b7.k5; have y76 := b7.k6; have HF7 := hide (Fr.trans (S := fun _ => False) ((Fr.refl _ wr).alloc _) F7 (fun _ _ e => e)); clear F7 b7)
              | (go_at_call 39; refine (HI4.out _ HF7.out).mono ?_; rintro e8 w8 ⟨rfl, hc8, F8⟩; have HF8 := hide (Fr.trans (S := fun k => k = w.heap.size) (HF7.out.mono (fun _ _ e => e.elim)) F8 (fun _ _ e => e)); have HC8 := hide hc8; clear F8 hc8))
            go_ret
            exact ⟨by rw [HF.out]; rfl, fr_box (HFR.out.trans HF7.out (fun _ _ e => e.elim))⟩
          · cases b4
            · have HF := hide (HBD.out (by simp))
              go_wp2_with (first
                | (go_at_call_of 37 (Value.int IntKind.i64 p.args); refine (HI1.out _).mono ?_; rintro e5 w5 ⟨rfl, rfl⟩)
                | (go_at_call_of 37 (Value.int IntKind.i64 p.free); refine (HI2.out _).mono ?_; rintro e6 w6 ⟨rfl, rfl⟩)
                | (go_at_call 38; refine (HI3.out _ ((Fr.refl _ _).alloc _)).mono ?_; rintro e7 w7 ⟨rfl, F7⟩; have b7 := HB0.out.fr F7; have y70 := b7.k0; have y71 := b7.k1; have y72 := b7.k2; have y73 := b7.k3; have y74 := b7.k4; have y75 := b7.k5; have y76 := b7.k6; have HF7 := hide (Fr.trans (S := fun _ => False) ((Fr.refl _ wr).alloc _) F7 (fun _ _ e => e)); clear F7 b7)
                | (go_at_call 39; refine (HI4.out _ HF7.out).mono ?_; rintro e8 w8 ⟨rfl, hc8, F8⟩; have HF8 := hide (Fr.trans (S := fun k => k = w.heap.size) (HF7.out.mono (fun _ _ e => e.elim)) F8 (fun _ _ e => e)); have HC8 := hide hc8; clear F8 hc8))
              go_ret
              exact ⟨by rw [HF.out]; rfl, fr_box (HFR.out.trans HF8.out (fun _ _ e => e))⟩
            · have HG := hide (HGD.out rfl)
              go_wp2_with (first
                | (go_at_call_of 37 (Value.int IntKind.i64 p.args); refine (HI1.out _).mono ?_; rintro e5 w5 ⟨rfl, rfl⟩)
                | (go_at_call_of 37 (Value.int IntKind.i64 p.free); refine (HI2.out _).mono ?_; rintro e6 w6 ⟨rfl, rfl⟩)
                | (go_at_call 38; refine (HI3.out _ ((Fr.refl _ _).alloc _)).mono ?_; rintro e7 w7 ⟨rfl, F7⟩; have b7 := HB0.out.fr F7; have y70 := b7.k0; have y71 := b7.k1; have y72 := b7.k2; have y73 := b7.k3; have y74 := b7.k4; have y75 := b7.k5; have y76 := b7.k6; have HF7 := hide (Fr.trans (S := fun _ => False) ((Fr.refl _ wr).alloc _) F7 (fun _ _ e => e)); clear F7 b7)
                | (go_at_call 39; refine (HI4.out _ HF7.out).mono ?_; rintro e8 w8 ⟨rfl, hc8, F8⟩; have HF8 := hide (Fr.trans (S := fun k => k = w.heap.size) (HF7.out.mono (fun _ _ e => e.elim)) F8 (fun _ _ e => e)); have HC8 := hide hc8; clear F8 hc8))
              exact ⟨⟨i + 1, _, by go_num, hil, HG.out.1, HC8.out (by first | rfl | trivial), HG.out.2, HFR.out.trans HF8.out (fun _ _ e => e)⟩, by simp [intOf]; omega⟩
    · have e : i = ps.length := by omega
      subst e
      have HT : Hid (r = true) := by
        unfold Hid
        rw [HRR.out]
        unfold mayW
        rw [Bool.and_eq_true, decide_eq_true_eq]
        refine ⟨?_, by omega⟩
        rw [List.all_eq_true]
        intro x hx
        obtain ⟨j, hj, rfl⟩ := List.getElem_of_mem hx
        exact hgd j hj hj
      have HFR := hide hF
      have hil' : ¬ ((ps.length : Int) < (ps.length : Int)) := by omega
      clear hgd hF hil hct hm hup
      go_wp2
      go_ret
      exact ⟨by rw [HT.out]; rfl, fr_box HFR.out⟩

theorem codeQ_keep {Q Q' : Nat → Prop} {w w' : World} (hw : ∀ k, k < w.heap.size → Q k → w'.heap[k]? = w.heap[k]?) (hQ : ∀ k, Q k → Q' k) {co : Option Addr} {cc : Nat} {l : List (Int × Int × Int)} (h : CodeL w co cc l ∧ AQ Q co l.length) : CodeL w' co cc l ∧ AQ Q' co l.length := by
  obtain ⟨h1, q1⟩ := h
  refine ⟨⟨h1.1, h1.2.1, ?_⟩, q1.imp id (fun ⟨a, ea, hq⟩ => ⟨a, ea, hQ _ hq⟩)⟩
  rcases h1.2.2 with e | ⟨g, off, ea, hc⟩
  · exact .inl e
  · refine .inr ⟨g, off, ea, fun j hj => ?_⟩
    have hg : w'.heap[g]? = w.heap[g]? := by
      rcases q1 with e | ⟨a, ea', hq⟩
      · omega
      · rw [ea] at ea'
        cases ea'
        exact hw g (World.block_lt_of_cell? w _ (hc j hj).1) hq
    exact ⟨(World.cell?_of_block hg).trans (hc j hj).1, (World.cell?_of_block hg).trans (hc j hj).2.1, (World.cell?_of_block hg).trans (hc j hj).2.2⟩

theorem nameQ_keep {Q Q' : Nat → Prop} {w w' : World} (hw : ∀ k, k < w.heap.size → Q k → w'.heap[k]? = w.heap[k]?) (hQ : ∀ k, Q k → Q' k) {na : Option Addr} {nc : Nat} {l : List ByteArray} (h : NameL w na nc l ∧ AQ Q na l.length) : NameL w' na nc l ∧ AQ Q' na l.length := by
  obtain ⟨h1, q1⟩ := h
  refine ⟨⟨h1.1, h1.2.1, ?_⟩, q1.imp id (fun ⟨a, ea, hq⟩ => ⟨a, ea, hQ _ hq⟩)⟩
  rcases h1.2.2 with e | ⟨g, off, ea, hc⟩
  · exact .inl e
  · refine .inr ⟨g, off, ea, fun j hj => ?_⟩
    have hg : w'.heap[g]? = w.heap[g]? := by
      rcases q1 with e | ⟨a, ea', hq⟩
      · omega
      · rw [ea] at ea'
        cases ea'
        exact hw g (World.block_lt_of_cell? w _ (hc j hj)) hq
    exact (World.cell?_of_block hg).trans (hc j hj)

theorem PBx.s4 {w : World} {B : Nat} {c0 c1 c2 c3 c4 c5 c6 : Value} (h : PBx w B c0 c1 c2 c3 c4 c5 c6) (v : Value) : PBx (w.setCell ⟨B, 4, none⟩ v) B c0 c1 c2 c3 v c5 c6 := (heap_setCell_same w B 4 _ _ v h).trans rfl

theorem PBx.s5 {w : World} {B : Nat} {c0 c1 c2 c3 c4 c5 c6 : Value} (h : PBx w B c0 c1 c2 c3 c4 c5 c6) (v : Value) : PBx (w.setCell ⟨B, 5, none⟩ v) B c0 c1 c2 c3 c4 v c6 := (heap_setCell_same w B 5 _ _ v h).trans rfl

theorem PBx.s6 {w : World} {B : Nat} {c0 c1 c2 c3 c4 c5 c6 : Value} (h : PBx w B c0 c1 c2 c3 c4 c5 c6) (v : Value) : PBx (w.setCell ⟨B, 6, none⟩ v) B c0 c1 c2 c3 c4 c5 v := (heap_setCell_same w B 6 _ _ v h).trans rfl

theorem PBx.lt {w : World} {B : Nat} {c0 c1 c2 c3 c4 c5 c6 : Value} (h : PBx w B c0 c1 c2 c3 c4 c5 c6) : B < w.heap.size := (Array.getElem?_eq_some_iff.1 h).1

theorem CPP.step {N : Nat} {w : World} {ps : List (PC N)} {k : Nat} {v : Value} {xs : List Value} {wr w8 w9 : World} {B : Nat} {c : Value} {d0 d1 d2 d3 d4 d5 d6 : Value} {o : Obj} {g cap : Nat} (hA : CPP w ps k v xs wr) (hk : k < ps.length) (F8 : Fr (fun _ => False) wr (w8.setCell ⟨B, 6, none⟩ c)) (hd : PQ (fun b => wr.heap.size ≤ b) (w8.setCell ⟨B, 6, none⟩ c) ps[k] [d0, d1, d2, d3, d4, d5, d6])
    (hown : w9.ownsRow w.heap.size 48 7 (.slice (some ⟨g, 0, none⟩) (k + 1) cap) (k + 1) (xs ++ [d0, d1, d2, d3, d4, d5, d6])) (hgrow : ((w8.setCell ⟨B, 6, none⟩ c).alloc o).grownBy w9 v.ownBlock) (hat : v.ownBlock = some g ∨ g = w8.heap.size + 1) :
    CPP w ps (k + 1) (.slice (some ⟨g, 0, none⟩) (k + 1) cap) (xs ++ [d0, d1, d2, d3, d4, d5, d6]) w9 := by
  have s8 : (w8.setCell ⟨B, 6, none⟩ c).heap.size = w8.heap.size := by simp [World.setCell]
  exact hA.next hk F8 hd hown hgrow (by rw [s8]; exact hat)

/-- Bytes in a row of the call's own. -/
def ByAt (w : World) (B : Nat) (v : Value) (l : List Nat) : Prop := w.ownsRow B 5 1 v l.length (cL l)

/-- What Write comes to. -/
def WrEnd {N : Nat} (w : World) (ps : List (PC N)) (e : Ending) (w' : World) : Prop :=
  ∃ v, e = .returned (.tuple #[v, .int .i64 (if mayW ps then 0 else 1)]) ∧ ByAt w' w.heap.size v (if mayW ps then pgB ps else []) ∧ Fr (fun _ => False) w w'

theorem fw_new {w W w' : World} (h : FW w.heap.size W w') (k : Fr (fun _ => False) w W) : Fr (fun _ => False) w w' := Fr.trans (S := fun _ => False) k h.fr (fun x hx e => by omega)

set_option maxRecDepth 100000 in
set_option maxHeartbeats 1000000 in
theorem write_any {N : Nat} (w : World) (ps : List (PC N)) (v : Value) (hr : RowD w (PCell w) v ps) (hl : (pgB ps).length ≤ 1000000000) :
    Calls Try.prog 8 #[v] w fun e w' => WrEnd w ps e w' := by
  have HM := hide (mayBe_any w ps v hr)
  obtain ⟨ao, cap, rfl⟩ := hr.shape
  by_cases hm : mayW ps = true
  · have hg : ∀ p, p ∈ ps → goodP p = true := by
      unfold mayW at hm
      rw [Bool.and_eq_true] at hm
      exact List.all_eq_true.1 hm.1
    have HP := hide (fun (W : World) (wb : Nat) (hu : Up w W) (hw : WO w.heap.size W wb []) => wprogram_any w W wb ps _ hr hu hw hg hl)
    have HE : Hid (mayW ps = true) := hm
    rw [hm] at HM
    clear hm hg hr hl
    go_enter Try.func8, Try.ntmps8
    go_wp2_with (first
      | (go_at_call 18; refine HM.out.mono ?_; rintro e1 w1 ⟨rfl, F1⟩; have HF1 := hide (F1.alloc (.cells #[.slice none 0 0] 53)); have HZ : Hid (w.heap.size ≤ w1.heap.size) := hide F1.size; clear F1)
      | (go_at_call 19; refine (HP.out _ _ (HF1.out.upw') ⟨.slice none 0 0, heap_alloc_new w1 _, World.ownsRow_nil _ _ _ _, (fun e => by cases e), HZ.out⟩).mono ?_; rintro e2 w2 ⟨rfl, ⟨v2, hv2⟩, F2⟩; obtain ⟨a2, c2, ev2⟩ := hv2.shape; have y2 := hv2.cell; subst ev2; have HV := hide hv2.own; have HF2 := hide (fw_new F2 HF1.out); clear hv2 F2))
    go_ret2
    refine ⟨.slice a2 (pgB ps).length c2, ?_, ?_, HF2.out⟩
    · rw [HE.out]; rfl
    · rw [HE.out]; exact HV.out
  · have hm' : mayW ps = false := by simpa using hm
    have HE : Hid (mayW ps = false) := hm'
    rw [hm'] at HM
    clear hm hm' hr hl
    go_enter Try.func8, Try.ntmps8
    go_wp2_with (go_at_call 18; refine HM.out.mono ?_; rintro e1 w1 ⟨rfl, F1⟩; have HF1 := hide F1; clear F1)
    go_ret2
    refine ⟨.slice none 0 0, ?_, ?_, HF1.out⟩
    · rw [HE.out]; rfl
    · rw [HE.out]; exact World.ownsRow_nil _ _ _ _

theorem ByAt.fr {w w' : World} {B : Nat} {v : Value} {l : List Nat} (h : ByAt w B v l) (hf : Fr (fun _ => False) w w') : ByAt w' B v l := by
  refine ⟨h.1, ?_⟩
  rcases h.2 with e | ⟨g, cap, cur, e1, e2, e3, e4⟩
  · exact .inl e
  · exact .inr ⟨g, cap, cur, e1, e2, (hf.block g (Array.getElem?_eq_some_iff.1 e3).1 (fun e => e)).trans e3, e4⟩

theorem ByAt.shape {w : World} {B : Nat} {v : Value} {l : List Nat} (h : ByAt w B v l) : ∃ ao cap, v = .slice ao l.length cap := row_shape h

theorem ByAt.mono {w : World} {B B' : Nat} {v : Value} {l : List Nat} (h : ByAt w B v l) (hb : B' ≤ B) : ByAt w B' v l := by
  refine ⟨h.1, ?_⟩
  rcases h.2 with e | ⟨g, cap, cur, e1, e2, e3, e4⟩
  · exact .inl e
  · exact .inr ⟨g, cap, cur, e1, Nat.le_trans hb e2, e3, e4⟩

theorem ByAt.one (w : World) (x : Nat) : ByAt (w.alloc (.cells #[.int .u8 (x : Int)] 5)) w.heap.size (.slice (some ⟨w.heap.size, 0, none⟩) 1 1) [x] :=
  ⟨rfl, .inr ⟨w.heap.size, 1, #[.int .u8 (x : Int)], rfl, Nat.le_refl _, heap_alloc_new w _, Nat.le_refl _, by decide, rfl, rfl⟩⟩

theorem numB_pos (n : Nat) : 0 < (numB n).length := by
  unfold numB grpB
  split <;> simp

/-- They are bytes. -/
def By8 (l : List Nat) : Prop := ∀ x, x ∈ l → x < 256

/-- A string of these bytes. -/
def strL (l : List Nat) : ByteArray := strOfNums (l.map fun (x : Nat) => (x : Int))

theorem ByAt.conv {w : World} {B : Nat} {v : Value} {l : List Nat} (h : ByAt w B v l) : (convert 23 9 v).run Try.prog w = .ok (.string (strL l)) w := by
  have h' : w.ownsRow B 5 1 v l.length (cL l) := h
  rcases h'.2 with ⟨rfl, e0⟩ | ⟨g, cap, cur, rfl, _⟩
  · have hS : l = [] := List.eq_nil_of_length_eq_zero e0
    subst hS
    exact run_convert_bytes_nil w 23 5 Try.underlying23 Try.underlying5 0 0 9 Try.underlying9
  · exact run_convert_bytes_arg w 23 5 Try.underlying23 Try.underlying5 g 0 l.length cap _ (by simp) (fun j hj => by
      have := h'.cells (g := g) rfl j (.int .u8 l[j]) (by simp [cL, hj])
      have e : (⟨g, 0, none⟩ : Addr).add j = ⟨g, 0 + j, none⟩ := by simp only [Addr.add]; split <;> simp_all
      rw [← e, this]
      simp [List.getD_eq_getElem?_getD, hj]) 9 Try.underlying9

end Go.Proofs.Ytilcigjhogcjkaa
