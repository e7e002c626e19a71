/-
  What is proved here: the document's datum (package tandemref10): a datum of kind 6.
-/
import Derived.Test.YtilcigjhogcjkaaPZ12
namespace Go.Proofs.Ytilcigjhogcjkaa
open Go Go.RowKit
set_option maxRecDepth 20000 in
set_option maxHeartbeats 20000000 in
theorem ldat_6 {h : Nat} (hD0 : LDOK h) (w0 w : World) (rb p dp : Nat) (dep : Int) (l m : List Nat) (hr : RfS w0 w rb l false (p : Int)) (h8 : By8 l) (hl : l.length ≤ 100000000) (hp : p ≤ 20000) (hp1 : 1 ≤ p) (hd : dp + 1 ≤ 100) (hdep : dep = 100 - (dp : Int)) (hh : dp ≤ h) (hn : rdNum l = some (6, m)) (m2 : List Nat) (n : Nat) (hq : rdNum m = some (n, m2)) :
    Calls Try.prog 33 #[.pointer (some ⟨rb, 0, none⟩), .int .i64 dep] w fun e w' => okL w0 w rb w.heap.size (lrDat (h + 1) (dp + 1) l p) e w' := by
  obtain ⟨out, hout⟩ : ∃ o, o = lrDat (h + 1) (dp + 1) l p := ⟨_, rfl⟩
  rw [← hout]
  have hrb := hr.lt
  have hA0 := hr.mono (up_alloc w (.cells #[.int .i64 0, .int .i64 0, .bool false, .slice none 0 0, .string ⟨#[]⟩, .slice none 0 0, .slice none 0 0] 64))
  have x2 := hA0.k2
  have z2 := hA0.fz 2
  have hB1 := hA0.left ((p : Int) - 1)
  have x3 := hB1.k2
  have HD4 : Hid (DBx ((w.alloc (.cells #[.int .i64 0, .int .i64 0, .bool false, .slice none 0 0, .string ⟨#[]⟩, .slice none 0 0, .slice none 0 0] 64)).setCell ⟨rb, 2, none⟩ (.int .i64 ((p : Int) - 1))) w.heap.size (.int .i64 0) (.int .i64 0) (.bool false) (.slice none 0 0) (.string ⟨#[]⟩) (.slice none 0 0) (.slice none 0 0)) := (heap_setCell_other _ _ _ _ (show w.heap.size ≠ rb from by omega)).trans (heap_alloc_new w _)
  have HF0 : Hid (Fr (fun j => j = rb) w ((w.alloc (.cells #[.int .i64 0, .int .i64 0, .bool false, .slice none 0 0, .string ⟨#[]⟩, .slice none 0 0, .slice none 0 0] 64)).setCell ⟨rb, 2, none⟩ (.int .i64 ((p : Int) - 1)))) := ((Fr.refl (fun j => j = rb) w).alloc _).setCell (fun _ => rfl) _ _
  have HRB := hide hrb
  have g1 : ¬ ((p : Int) - 1 < 0) := by omega
  have g2 : ¬ (dep > 100) := by omega
  have K0 := hide ((lnum_any w0 _ rb l _ hB1 h8).mono (fun _ _ x => x.yes hn))
  have h8m := rdNum_by8 hn h8
  obtain ⟨iD, hiD, zD0, zD1, zD2⟩ := info_parts infoD
  have h82 := rdNum_by8 hq h8m
  have hnl := rdNum_le hq
  have hml2 : m2.length ≤ 100000000 := Nat.le_trans ((rdNum_suf hq).trans (rdNum_suf hn)).length_le hl
  have HO : out = match rdRowP (lrDat h dp) n m2 (p - 1) with | none => none | some (I, m1, q1) => (match lrRst (lrDat h dp) m1 q1 with | none => none | some (R, m', q') => some (((6 : Int), (0 : Int), false, [], ⟨#[]⟩, I, R), m', q')) := by
    rw [hout]
    simp only [lrDat, hn]
    rw [if_neg (by omega)]
    simp only [lrFld, lrDta, hq]
    first | rfl | simp
  obtain ⟨mo, hmo⟩ : ∃ mo, mo = rdRowP (lrDat h dp) n m2 (p - 1) := ⟨_, rfl⟩
  rw [← hmo] at HO
  replace HO := hide HO
  have HMO := hide hmo
  have H82 := hide (And.intro h82 hml2)
  have HDD := hide hD0
  have eqp : (p : Int) - 1 = ((p - 1 : Nat) : Int) := by omega
  have HEQ := hide eqp
  have KN := hide (fun (W : World) (h' : RfS w0 W rb m false ((p : Int) - 1)) => (lnum_any w0 W rb m _ h' h8m).mono (fun _ _ x => x.yes hq))
  clear hr hrb hA0 hB1 h8 hn hout hq h8m h82 hml2 hmo hD0 eqp
  go_enter Try.func33, Try.ntmps33
  go_wp2_with (first
    | (have hx := HR1; clear hx; go_at_call 30; refine (KN.out _ HR1.out).mono ?_; rintro e3 w3 ⟨rfl, F3, hr3⟩; have HD3 := hide (HD5.out.frr F3 (by have := HS1.out; have := HRB.out; omega)); have HG3 := hide (HG5.out.frr F3 (by have := HS1.out; have := HRB.out; omega)); have HR3 := hide hr3; have HF3 := hide (HF1.out.trans F3 (fun _ _ e => e)); clear F3 hr3)
    | (go_at_call 30; refine K0.out.mono ?_; rintro e1 w1 ⟨rfl, F1, hr1⟩; have d4 := (HD4.out.frr F1 (by have := HRB.out; omega)).al (.cells #[.int .i64 6, .int .i64 0, .bool false, .slice none 0 0, .string ⟨#[]⟩, .slice none 0 0, .slice none 0 0] 64); have d5 : DBx (w1.alloc (.cells #[.int .i64 6, .int .i64 0, .bool false, .slice none 0 0, .string ⟨#[]⟩, .slice none 0 0, .slice none 0 0] 64)) w1.heap.size (.int .i64 6) (.int .i64 0) (.bool false) (.slice none 0 0) (.string ⟨#[]⟩) (.slice none 0 0) (.slice none 0 0) := heap_alloc_new w1 _; have hs1 : w.heap.size < w1.heap.size := (HD4.out.frr F1 (by have := HRB.out; omega)).lt; have hr2 := hr1.mono (up_alloc w1 (.cells #[.int .i64 6, .int .i64 0, .bool false, .slice none 0 0, .string ⟨#[]⟩, .slice none 0 0, .slice none 0 0] 64)); have b1 := hr2.k1; have zz1 := hr2.fz 1; have x10 := d5.k0; have HS1 : Hid (w.heap.size < w1.heap.size) := hs1; have HR1 := hide hr2; have HD5 := hide d5; have HG5 := hide d4; have HF1 := hide ((HF0.out.trans F1 (fun _ _ e => e)).alloc (.cells #[.int .i64 6, .int .i64 0, .bool false, .slice none 0 0, .string ⟨#[]⟩, .slice none 0 0, .slice none 0 0] 64)); clear F1 hr1 hr2 d4 d5 hs1))
  go_loopw [10] (fun a10 wr => ∃ (i : Nat) (I : List (Tr h)) (xs : List Value) (ao : Option Addr) (cap : Nat), i ≤ n ∧ a10 = .int .i64 (i : Int) ∧ Fr (fun j => j = rb) w wr ∧ DBx wr w1.heap.size (.int .i64 6) (.int .i64 0) (.bool false) (.slice none 0 0) (.string ⟨#[]⟩) (.slice ao i cap) (.slice none 0 0) ∧ DBx wr w.heap.size (.int .i64 0) (.int .i64 0) (.bool false) (.slice none 0 0) (.string ⟨#[]⟩) (.slice none 0 0) (.slice none 0 0) ∧ ((∃ (mm : List Nat) (q : Nat), I.length = i ∧ By8 mm ∧ mm.length ≤ 100000000 ∧ q ≤ 20000 ∧ LQ (w1.heap.size + 1) I (.slice ao i cap) xs wr ∧ RfS w0 wr rb mm false (q : Int) ∧ mo = moreP I (rdRowP (lrDat h dp) (n - i) mm q)) ∨ (∃ mm q, RfS w0 wr rb mm true q ∧ mo = none))) (fun a10 _ => n - (intOf a10).toNat)
  case atStart => exact ⟨0, [], [], none, 0, Nat.zero_le _, rfl, HF3.out, HD3.out, HG3.out, .inl ⟨m2, p - 1, rfl, H82.out.1, H82.out.2, by omega, LQ.nil _ _ _, by have := HR3.out; rw [HEQ.out] at this; exact this, by rw [moreP_nil]; exact HMO.out⟩⟩
  case round =>
    obtain ⟨i, I, xs, ao, cap, hi, rfl, hF, hD, hG, hcase⟩ := hrel
    clear HR1 HD5 HG5 HD3 HG3 HR3 HF1 HF3
    rcases hcase with ⟨mm, q, hIl, h8mm, hml, hq2, hL, hR, ho⟩ | ⟨mm, q, hR, ho⟩
    · have b9 := hR.k1
      have HIL := hide hIl
      by_cases hil : i < n
      · have hiI : (i : Int) < (n : Int) := by omega
        rw [show n - i = (n - (i + 1)) + 1 by omega] at ho
        have K4a := fun (dep' : Int) (hdep' : dep' = 101 - (dp : Int)) => HDD.out w0 wr.drew rb q dp dep' mm hR.drew h8mm hml hq2 (by omega) hh hdep'
        have x95 := hD.k5
        have HST : Hid (DBx wr w1.heap.size (.int .i64 6) (.int .i64 0) (.bool false) (.slice none 0 0) (.string ⟨#[]⟩) (.slice ao i cap) (.slice none 0 0)) ∧ Hid (DBx wr w.heap.size (.int .i64 0) (.int .i64 0) (.bool false) (.slice none 0 0) (.string ⟨#[]⟩) (.slice none 0 0) (.slice none 0 0)) ∧ Hid (Fr (fun j => j = rb) w wr) := ⟨hD, hG, hF⟩
        have HLQ := hide hL
        have HLB : Hid (∀ k, (Value.slice ao i cap).ownBlock = some k → w1.heap.size + 1 ≤ k) := fun k hk => (hL.own.lt k hk).1
        have HSZ : Hid (w1.heap.size + 1 ≤ wr.heap.size) := hD.lt
        cases hx : lrDat h dp mm q with
        | none =>
          have K4 := hide (fun (dep' : Int) (hdep' : dep' = 101 - (dp : Int)) => (K4a dep' hdep').mono (fun _ _ x => x.no hx))
          have HO2 : Hid (mo = none) := ho.trans (moreP_no hx)
          clear hF hD hG hL hR ho h8mm hx hIl K4a
          go_upto_region 35 with fail
          go_region_law (first
            | (rw [if_pos (by rfl)]; go_simp; refine (K4.out _ (by first | omega | (rw [IntKind.wrap_i64]; omega))).mono ?_; rintro e4 w4 ⟨kk, nn, bb, e1, e2, e3, tt, i1, i2, i3, r1, r2, r3, rfl, F4, l4, q4, hr4⟩; have D4 := (HST.1.out.drew).frr F4 (by have := HS1.out; have := HRB.out; omega); have yl4 := D4.k5; have ym4 := (D4.al (.cells #[.int .i64 kk, .int .i64 nn, .bool bb, .slice e1 e2 e3, .string tt, .slice i1 i2 i3, .slice r1 r2 r3] 64)).k5; have HOW4 : Hid (w4.ownsRow (w1.heap.size + 1) 64 7 (.slice ao i cap) i xs) := (by have := (HLQ.out.drew.fr F4 (by have := HS1.out; have := HRB.out; omega)).own; rw [HIL.out] at this; exact this); have HD4 := hide D4; have HG4 := hide ((HST.2.1.out.drew).frr F4 (by have := HS1.out; have := HRB.out; omega)); have HR4 := hide hr4; have HF4 := hide ((HST.2.2.out.drew).trans F4 (fun _ _ e => e)); have HX4 := hide F4; clear F4 hr4 D4)
            | (refine step_append_lies _ (by rfl) _ _ 45 (by rfl) (w1.heap.size + 1) 64 iD _ 7 112 Try.underlying45 hiD zD0 zD1 zD2 rfl (by decide) _ i xs (by rfl) (HOW4.out.alloc _) ⟨w4.heap.size, 0, none⟩ 1 1 [.int .i64 kk, .int .i64 nn, .bool bb, .slice e1 e2 e3, .string tt, .slice i1 i2 i3, .slice r1 r2 r3] (by rfl) rfl (hcells7 w4 _ _ _ _ _ _ _ _) (ones7 _ _ _ _ _ _ _ _ _ _ _ _ _) (by decide) (by unfold maxLen; omega) (by omega) (by have := HD4.out.lt; simp; omega) (w4.heap.size + 1) (by simp) ?_; intro g9 cap9 w9 hown9 hgrow9 hat9 _; have HE9 := hide (app_post (W := w4) HF4.out HD4.out HG4.out HR4.out (fun k hk => (HLB.out k hk)) hgrow9 (Nat.le_refl _) HS1.out HRB.out); have z95 := HE9.out.2.1.fz 5; have y95 := HE9.out.2.1.k5; clear hown9 hgrow9 hat9))
          all_goals
            go_wp2_with fail
            refine ⟨⟨i + 1, [], [], _, _, hil, by go_num, HE9.out.1.setCell (g := w1.heap.size) (fun e => by have := HS1.out; have := HRB.out; omega) 5 _, HE9.out.2.1.s5 _, HE9.out.2.2.1.oo (by have := HS1.out; have := HRB.out; omega), .inr ⟨_, _, HE9.out.2.2.2.setO (by have := HS1.out; have := HRB.out; omega), HO2.out⟩⟩, by simp [intOf]; omega⟩
        | some y =>
          obtain ⟨tr, m3, q3⟩ := y
          have hsf := lrDat_suf h dp _ _ _ _ _ hx
          have H83 : Hid (By8 m3 ∧ m3.length ≤ 100000000 ∧ q3 ≤ 20000) := ⟨h8mm.suf hsf.1, Nat.le_trans hsf.1.length_le hml, Nat.le_trans hsf.2 hq2⟩
          have K4 := hide (fun (dep' : Int) (hdep' : dep' = 101 - (dp : Int)) => (K4a dep' hdep').mono (fun _ _ x => x.yes hx))
          have HO2 : Hid (mo = moreP (I ++ [tr]) (rdRowP (lrDat h dp) (n - (i + 1)) m3 q3)) := ho.trans (moreP_yes hx)
          clear hF hD hG hL hR ho h8mm hx hIl K4a hsf
          go_upto_region 35 with fail
          go_region_law (first
            | (rw [if_pos (by rfl)]; go_simp; refine (K4.out _ (by first | omega | (rw [IntKind.wrap_i64]; omega))).mono ?_; rintro e4 w4 ⟨kk, nn, bb, e1, e2, e3, tt, i1, i2, i3, r1, r2, r3, rfl, hdq, F4, hr4⟩; have D4 := (HST.1.out.drew).frr F4 (by have := HS1.out; have := HRB.out; omega); have yl4 := D4.k5; have ym4 := (D4.al (.cells #[.int .i64 kk, .int .i64 nn, .bool bb, .slice e1 e2 e3, .string tt, .slice i1 i2 i3, .slice r1 r2 r3] 64)).k5; have HOW4 : Hid (w4.ownsRow (w1.heap.size + 1) 64 7 (.slice ao i cap) i xs) := (by have := (HLQ.out.drew.fr F4 (by have := HS1.out; have := HRB.out; omega)).own; rw [HIL.out] at this; exact this); have HD4 := hide D4; have HG4 := hide ((HST.2.1.out.drew).frr F4 (by have := HS1.out; have := HRB.out; omega)); have HR4 := hide hr4; have HF4 := hide ((HST.2.2.out.drew).trans F4 (fun _ _ e => e)); have HX4 := hide F4; have HQ4 := hide hdq; clear F4 hr4 D4 hdq)
            | (refine step_append_lies _ (by rfl) _ _ 45 (by rfl) (w1.heap.size + 1) 64 iD _ 7 112 Try.underlying45 hiD zD0 zD1 zD2 rfl (by decide) _ i xs (by rfl) (HOW4.out.alloc _) ⟨w4.heap.size, 0, none⟩ 1 1 [.int .i64 kk, .int .i64 nn, .bool bb, .slice e1 e2 e3, .string tt, .slice i1 i2 i3, .slice r1 r2 r3] (by rfl) rfl (hcells7 w4 _ _ _ _ _ _ _ _) (ones7 _ _ _ _ _ _ _ _ _ _ _ _ _) (by decide) (by unfold maxLen; omega) (by omega) (by have := HD4.out.lt; simp; omega) (w4.heap.size + 1) (by simp) ?_; intro g9 cap9 w9 hown9 hgrow9 hat9 _; have HE9 := hide (app_post (W := w4) HF4.out HD4.out HG4.out HR4.out (fun k hk => (HLB.out k hk)) hgrow9 (Nat.le_refl _) HS1.out HRB.out); have z95 := HE9.out.2.1.fz 5; have y95 := HE9.out.2.1.k5; have HLN : Hid (LQ (w1.heap.size + 1) (I ++ [tr]) (.slice (some ⟨g9, 0, none⟩) (i + 1) cap9) (xs ++ [.int .i64 kk, .int .i64 nn, .bool bb, .slice e1 e2 e3, .string tt, .slice i1 i2 i3, .slice r1 r2 r3]) w9) := (by have := LQ.snoc (I := I) (v := .slice ao i cap) (xs := xs) (wr := wr.drew) (w2 := w4) (g := g9) (cap := cap9) HLQ.out.drew HSZ.out HX4.out.size (fun b hb hl => HX4.out.block b hb (by show b ≠ rb; have := HS1.out; have := HRB.out; omega)) HQ4.out (by rw [HIL.out]; exact hown9) hgrow9 hat9; rw [HIL.out] at this; exact this); clear hown9 hgrow9 hat9))
          all_goals
            go_wp2_with fail
            refine ⟨⟨i + 1, I ++ [tr], _, _, _, hil, by go_num, HE9.out.1.setCell (g := w1.heap.size) (fun e => by have := HS1.out; have := HRB.out; omega) 5 _, HE9.out.2.1.s5 _, HE9.out.2.2.1.oo (by have := HS1.out; have := HRB.out; omega), .inl ⟨m3, q3, by simp [HIL.out], H83.out.1, H83.out.2.1, H83.out.2.2, LQ.set HLN.out (by omega), HE9.out.2.2.2.setO (by have := HS1.out; have := HRB.out; omega), HO2.out⟩⟩, by simp [intOf]; omega⟩
      · have hiI : ¬ ((i : Int) < (n : Int)) := by omega
        have e : i = n := by omega
        rw [show n - i = 0 by omega, rdRowP_zero] at ho
        have HO2 : mo = some (I, mm, q) := by rw [ho]; simp [moreP]
        have HO3 : out = match lrRst (lrDat h dp) mm q with | none => none | some (R, m', q') => some (((6 : Int), (0 : Int), false, [], ⟨#[]⟩, I, R), m', q') := by rw [HO.out, HO2]
        have HST : Hid (DBx wr w1.heap.size (.int .i64 6) (.int .i64 0) (.bool false) (.slice none 0 0) (.string ⟨#[]⟩) (.slice ao i cap) (.slice none 0 0)) ∧ Hid (DBx wr w.heap.size (.int .i64 0) (.int .i64 0) (.bool false) (.slice none 0 0) (.string ⟨#[]⟩) (.slice none 0 0) (.slice none 0 0)) ∧ Hid (Fr (fun j => j = rb) w wr) := ⟨hD, hG, hF⟩
        have HLQ := hide hL
        have yk0 := hD.k0
        cases hr5 : rdNum mm with
        | none =>
          have HOX : Hid (out = none) := by unfold Hid; rw [HO3, rst_none hr5]
          have K5 := hide ((lnum_any w0 wr rb mm _ hR h8mm).mono (fun _ _ x => x.no hr5))
          clear hD hG hR hF ho HO2 HO3 e hIl h8mm hL hr5
          go_wp2_with (go_at_call 30; refine K5.out.mono ?_; rintro e5 w5 ⟨n5, hn5, rfl, F5, l5, q5, hr5⟩; have D5 := HST.1.out.frr F5 (by have := HS1.out; have := HRB.out; omega); have G5 := HST.2.1.out.frr F5 (by have := HS1.out; have := HRB.out; omega); have b5 := hr5.k1; have z5 := hr5.fz 1; have y50 := D5.k0; obtain ⟨⟨x90, x91, x92, x93, x94, x95, x96⟩, ⟨f90, y90⟩, ⟨f91, y91⟩, ⟨f92, y92⟩, ⟨f93, y93⟩, ⟨f94, y94⟩, ⟨f95, y95⟩, ⟨f96, y96⟩, ⟨kr0, kr1, kr2, kr3, kr4, kr5, kr6⟩⟩ := DBx.copyF D5 G5; have D5b := D5.oo (g := rb) (i := 1) (x := .bool true) (by have := HS1.out; have := HRB.out; omega); have G5b := G5.oo (g := rb) (i := 1) (x := .bool true) (by have := HS1.out; have := HRB.out; omega); obtain ⟨⟨x80, x81, x82, x83, x84, x85, x86⟩, ⟨f80, y80⟩, ⟨f81, y81⟩, ⟨f82, y82⟩, ⟨f83, y83⟩, ⟨f84, y84⟩, ⟨f85, y85⟩, ⟨f86, y86⟩, ⟨ks0, ks1, ks2, ks3, ks4, ks5, ks6⟩⟩ := DBx.copyF D5b G5b; have b5b := (hr5.bad true).k1; have HD5 := hide D5; have HG5 := hide G5; have HR5 := hide hr5; have HF5 := hide (HST.2.2.out.trans F5 (fun _ _ e => e)); have HX5 := hide F5; have hc5 := cases3 (n5 : Int); clear F5 hr5 D5 G5 D5b G5b hn5; rcases hc5 with ⟨g51, g52⟩ | ⟨g51, g52⟩ | ⟨g51, g52⟩)
          · refine bodyPost_ret (by simp [results, Try.results33, go_sem, ks0, ks1, ks2, ks3, ks4, ks5, ks6]; rfl) rfl ?_
            exact okL.mkno (by first | exact HOX.out | rfl) (LB.set7 (HF5.out.setCell (g := rb) (fun _ => rfl) 1 (.bool true)) (HR5.out.bad true) HRB.out (Nat.le_refl _) _ _ _ _ _ _ _) rfl
          · refine bodyPost_ret (by simp [results, Try.results33, go_sem, kr0, kr1, kr2, kr3, kr4, kr5, kr6]; rfl) rfl ?_
            exact okL.mkno (by first | exact HOX.out | rfl) (LB.set7 HF5.out HR5.out HRB.out (Nat.le_refl _) _ _ _ _ _ _ _) rfl
          · refine bodyPost_ret (by simp [results, Try.results33, go_sem, kr0, kr1, kr2, kr3, kr4, kr5, kr6]; rfl) rfl ?_
            exact okL.mkno (by first | exact HOX.out | rfl) (LB.set7 HF5.out HR5.out HRB.out (Nat.le_refl _) _ _ _ _ _ _ _) rfl
        | some y =>
          obtain ⟨n5, m5⟩ := y
          have hle5 := rdNum_le hr5
          have h85 := rdNum_by8 hr5 h8mm
          have hml5 := (rdNum_suf hr5).length_le
          have K5 := hide ((lnum_any w0 wr rb mm _ hR h8mm).mono (fun _ _ x => x.yes hr5))
          by_cases hn0 : n5 = 0
          · have HOX : Hid (out = some (((6 : Int), (0 : Int), false, [], ⟨#[]⟩, I, []), m5, q)) := by unfold Hid; rw [HO3, rst_zero hr5 hn0]; rfl
            have g51 : decide ((n5 : Int) > 1) = false := decide_eq_false (by omega)
            have g52 : ((n5 : Int) == 1) = false := by rw [beq_eq_false_iff_ne]; omega
            clear hD hG hR hF ho HO2 HO3 e hIl h8mm hL hr5 h85 hle5 hml5 hn0
            go_wp2_with (go_at_call 30; refine K5.out.mono ?_; rintro e5 w5 ⟨rfl, F5, hr5⟩; have D5 := HST.1.out.frr F5 (by have := HS1.out; have := HRB.out; omega); have G5 := HST.2.1.out.frr F5 (by have := HS1.out; have := HRB.out; omega); have b5 := hr5.k1; have z5 := hr5.fz 1; have y50 := D5.k0; obtain ⟨⟨x90, x91, x92, x93, x94, x95, x96⟩, ⟨f90, y90⟩, ⟨f91, y91⟩, ⟨f92, y92⟩, ⟨f93, y93⟩, ⟨f94, y94⟩, ⟨f95, y95⟩, ⟨f96, y96⟩, ⟨kr0, kr1, kr2, kr3, kr4, kr5, kr6⟩⟩ := DBx.copyF D5 G5; have D5b := D5.oo (g := rb) (i := 1) (x := .bool true) (by have := HS1.out; have := HRB.out; omega); have G5b := G5.oo (g := rb) (i := 1) (x := .bool true) (by have := HS1.out; have := HRB.out; omega); have b5b := (hr5.bad true).k1; have HD5 := hide D5; have HG5 := hide G5; have HR5 := hide hr5; have HF5 := hide (HST.2.2.out.trans F5 (fun _ _ e => e)); have HX5 := hide F5; clear F5 hr5 D5 G5 D5b G5b)
            refine bodyPost_ret (by simp [results, Try.results33, go_sem, kr0, kr1, kr2, kr3, kr4, kr5, kr6]; rfl) rfl ?_
            have hs1 := HS1.out
            have hrow := LQ.row (HLQ.out.fr HX5.out (by have := HS1.out; have := HRB.out; omega)) (B := w.heap.size) (by omega) (W' := set7 w5 w.heap.size (.int .i64 6) (.int .i64 0) (.bool false) (.slice none 0 0) (.string ⟨#[]⟩) (.slice ao i cap) (.slice none 0 0)) (fun k _ hk => set7_other (by omega) _ _ _ _ _ _ _)
            refine okL.mkyes HOX.out rfl ?_ ⟨set7_fr HF5.out (Nat.le_refl _) _ _ _ _ _ _ _, ?_⟩
            · exact ⟨_, _, _, rfl, by decide, nilSl _, (fun j hj => by cases hj), hrow.1, nilRow _ _, .inl rfl, hrow.2, .inl rfl⟩
            · exact HR5.out.set7 HRB.out _ _ _ _ _ _ _
          · by_cases hn1 : n5 = 1
            · have g51 : decide ((n5 : Int) > 1) = false := decide_eq_false (by omega)
              have g52 : ((n5 : Int) == 1) = true := by rw [beq_iff_eq]; omega
              have HP5 : Hid (By8 m5 ∧ m5.length ≤ 100000000 ∧ q ≤ 20000) := ⟨h85, Nat.le_trans hml5 hml, hq2⟩
              have HSA : Hid (w1.heap.size + 1 ≤ wr.heap.size) := hD.lt
              cases hx : lrDat h dp m5 q with
              | none =>
                have HOX : Hid (out = none) := by unfold Hid; rw [HO3, rst_one_no hr5 hn1 hx]
                have HHX := hide hx
                clear hD hG hR hF ho HO2 HO3 e hIl h8mm hL hr5 h85 hle5 hml5 hn1 hn0 hx
                go_upto_region 41 with (go_at_call 30; refine K5.out.mono ?_; rintro e5 w5 ⟨rfl, F5, hr5⟩; have D5 := HST.1.out.frr F5 (by have := HS1.out; have := HRB.out; omega); have G5 := HST.2.1.out.frr F5 (by have := HS1.out; have := HRB.out; omega); have b5 := hr5.k1; have z5 := hr5.fz 1; have y50 := D5.k0; have D5b := D5.oo (g := rb) (i := 1) (x := .bool true) (by have := HS1.out; have := HRB.out; omega); have G5b := G5.oo (g := rb) (i := 1) (x := .bool true) (by have := HS1.out; have := HRB.out; omega); have b5b := (hr5.bad true).k1; have HD5 := hide D5; have HG5 := hide G5; have HR5 := hide hr5; have HF5 := hide (HST.2.2.out.trans F5 (fun _ _ e => e)); have HX5 := hide F5; have K6 := hide (fun (dep' : Int) (hdep' : dep' = 101 - (dp : Int)) => (HDD.out w0 w5.drew rb q dp dep' m5 hr5.drew HP5.out.1 HP5.out.2.1 HP5.out.2.2 (by omega) hh hdep').mono (fun _ _ x => x.no HHX.out)); have HS5 : Hid (DBx w5 w1.heap.size (.int .i64 6) (.int .i64 0) (.bool false) (.slice none 0 0) (.string ⟨#[]⟩) (.slice ao i cap) (.slice none 0 0)) ∧ Hid (DBx w5 w.heap.size (.int .i64 0) (.int .i64 0) (.bool false) (.slice none 0 0) (.string ⟨#[]⟩) (.slice none 0 0) (.slice none 0 0)) ∧ Hid (Fr (fun j => j = rb) w w5) := ⟨HD5, HG5, HF5⟩; have yk6 := HD5.out.k6; have HSZ5 : Hid (w1.heap.size + 1 ≤ w5.heap.size) := HD5.out.lt; clear F5 hr5 D5 G5 D5b G5b)
                go_region_law (first
                  | (rw [if_pos (by rfl)]; go_simp; refine (K6.out _ (by first | omega | (rw [IntKind.wrap_i64]; omega))).mono ?_; rintro e6 w6 ⟨kk, nn, bb, e1, e2, e3, tt, i1, i2, i3, r1, r2, r3, rfl, F4, l4, q4, hr4⟩; have D4 := (HS5.1.out.drew).frr F4 (by have := HS1.out; have := HRB.out; omega); have yl6 := D4.k6; have ym6 := (D4.al (.cells #[.int .i64 kk, .int .i64 nn, .bool bb, .slice e1 e2 e3, .string tt, .slice i1 i2 i3, .slice r1 r2 r3] 64)).k6; have HOW6 : Hid (w6.ownsRow (w1.heap.size + 1) 64 7 (.slice none 0 0) 0 []) := (World.ownsRow_nil _ _ _ _); have HD6 := hide D4; have HG6 := hide ((HS5.2.1.out.drew).frr F4 (by have := HS1.out; have := HRB.out; omega)); have HR6 := hide hr4; have HF6 := hide ((HS5.2.2.out.drew).trans F4 (fun _ _ e => e)); have HX6 := hide F4; clear F4 hr4 D4)
                  | (refine step_append_lies _ (by rfl) _ _ 45 (by rfl) (w1.heap.size + 1) 64 iD _ 7 112 Try.underlying45 hiD zD0 zD1 zD2 rfl (by decide) _ 0 [] (by rfl) (HOW6.out.alloc _) ⟨w6.heap.size, 0, none⟩ 1 1 [.int .i64 kk, .int .i64 nn, .bool bb, .slice e1 e2 e3, .string tt, .slice i1 i2 i3, .slice r1 r2 r3] (by rfl) rfl (hcells7 w6 _ _ _ _ _ _ _ _) (ones7 _ _ _ _ _ _ _ _ _ _ _ _ _) (by decide) (by unfold maxLen; omega) (by omega) (by have := HD6.out.lt; simp; omega) (w6.heap.size + 1) (by simp) ?_; intro g9 cap9 w9 hown9 hgrow9 hat9 _; have HE9 := hide (app_post (W := w6) HF6.out HD6.out HG6.out HR6.out (fun k hk => by cases hk) hgrow9 (Nat.le_refl _) HS1.out HRB.out); have z96 := HE9.out.2.1.fz 6; have y96 := HE9.out.2.1.k6; obtain ⟨⟨xc0, xc1, xc2, xc3, xc4, xc5, xc6⟩, ⟨fc0, yc0⟩, ⟨fc1, yc1⟩, ⟨fc2, yc2⟩, ⟨fc3, yc3⟩, ⟨fc4, yc4⟩, ⟨fc5, yc5⟩, ⟨fc6, yc6⟩, ⟨kt0, kt1, kt2, kt3, kt4, kt5, kt6⟩⟩ := DBx.copyF (HE9.out.2.1.s6 (.slice (some ⟨g9, 0, none⟩) 1 cap9)) (HE9.out.2.2.1.oo (g := w1.heap.size) (i := 6) (x := .slice (some ⟨g9, 0, none⟩) 1 cap9) (by have := HS1.out; have := HRB.out; omega)); clear hown9 hgrow9 hat9))
                all_goals
                  go_wp2_with fail
                  refine bodyPost_ret (by simp [results, Try.results33, go_sem, kt0, kt1, kt2, kt3, kt4, kt5, kt6]; rfl) rfl ?_
                  exact okL.mkno (by first | exact HOX.out | rfl) (LB.set7 (HE9.out.1.setCell (g := w1.heap.size) (fun e => by have := HS1.out; have := HRB.out; omega) 6 _) (HE9.out.2.2.2.setO (by have := HS1.out; have := HRB.out; omega)) HRB.out (Nat.le_refl _) _ _ _ _ _ _ _) rfl
              | some z =>
                obtain ⟨tr, m6, q6⟩ := z
                have HOX : Hid (out = some (((6 : Int), (0 : Int), false, [], ⟨#[]⟩, I, [tr]), m6, q6)) := by unfold Hid; rw [HO3, rst_one_yes hr5 hn1 hx]; rfl
                have HHX := hide hx
                clear hD hG hR hF ho HO2 HO3 e hIl h8mm hL hr5 h85 hle5 hml5 hn1 hn0 hx
                go_upto_region 41 with (go_at_call 30; refine K5.out.mono ?_; rintro e5 w5 ⟨rfl, F5, hr5⟩; have D5 := HST.1.out.frr F5 (by have := HS1.out; have := HRB.out; omega); have G5 := HST.2.1.out.frr F5 (by have := HS1.out; have := HRB.out; omega); have b5 := hr5.k1; have z5 := hr5.fz 1; have y50 := D5.k0; have D5b := D5.oo (g := rb) (i := 1) (x := .bool true) (by have := HS1.out; have := HRB.out; omega); have G5b := G5.oo (g := rb) (i := 1) (x := .bool true) (by have := HS1.out; have := HRB.out; omega); have b5b := (hr5.bad true).k1; have HD5 := hide D5; have HG5 := hide G5; have HR5 := hide hr5; have HF5 := hide (HST.2.2.out.trans F5 (fun _ _ e => e)); have HX5 := hide F5; have K6 := hide (fun (dep' : Int) (hdep' : dep' = 101 - (dp : Int)) => (HDD.out w0 w5.drew rb q dp dep' m5 hr5.drew HP5.out.1 HP5.out.2.1 HP5.out.2.2 (by omega) hh hdep').mono (fun _ _ x => x.yes HHX.out)); have HS5 : Hid (DBx w5 w1.heap.size (.int .i64 6) (.int .i64 0) (.bool false) (.slice none 0 0) (.string ⟨#[]⟩) (.slice ao i cap) (.slice none 0 0)) ∧ Hid (DBx w5 w.heap.size (.int .i64 0) (.int .i64 0) (.bool false) (.slice none 0 0) (.string ⟨#[]⟩) (.slice none 0 0) (.slice none 0 0)) ∧ Hid (Fr (fun j => j = rb) w w5) := ⟨HD5, HG5, HF5⟩; have yk6 := HD5.out.k6; have HSZ5 : Hid (w1.heap.size + 1 ≤ w5.heap.size) := HD5.out.lt; clear F5 hr5 D5 G5 D5b G5b)
                go_region_law (first
                  | (rw [if_pos (by rfl)]; go_simp; refine (K6.out _ (by first | omega | (rw [IntKind.wrap_i64]; omega))).mono ?_; rintro e6 w6 ⟨kk, nn, bb, e1, e2, e3, tt, i1, i2, i3, r1, r2, r3, rfl, hdq, F4, hr4⟩; have D4 := (HS5.1.out.drew).frr F4 (by have := HS1.out; have := HRB.out; omega); have yl6 := D4.k6; have ym6 := (D4.al (.cells #[.int .i64 kk, .int .i64 nn, .bool bb, .slice e1 e2 e3, .string tt, .slice i1 i2 i3, .slice r1 r2 r3] 64)).k6; have HOW6 : Hid (w6.ownsRow (w1.heap.size + 1) 64 7 (.slice none 0 0) 0 []) := (World.ownsRow_nil _ _ _ _); have HD6 := hide D4; have HG6 := hide ((HS5.2.1.out.drew).frr F4 (by have := HS1.out; have := HRB.out; omega)); have HR6 := hide hr4; have HF6 := hide ((HS5.2.2.out.drew).trans F4 (fun _ _ e => e)); have HX6 := hide F4; have HQ6 := hide hdq; clear F4 hr4 D4 hdq)
                  | (refine step_append_lies _ (by rfl) _ _ 45 (by rfl) (w1.heap.size + 1) 64 iD _ 7 112 Try.underlying45 hiD zD0 zD1 zD2 rfl (by decide) _ 0 [] (by rfl) (HOW6.out.alloc _) ⟨w6.heap.size, 0, none⟩ 1 1 [.int .i64 kk, .int .i64 nn, .bool bb, .slice e1 e2 e3, .string tt, .slice i1 i2 i3, .slice r1 r2 r3] (by rfl) rfl (hcells7 w6 _ _ _ _ _ _ _ _) (ones7 _ _ _ _ _ _ _ _ _ _ _ _ _) (by decide) (by unfold maxLen; omega) (by omega) (by have := HD6.out.lt; simp; omega) (w6.heap.size + 1) (by simp) ?_; intro g9 cap9 w9 hown9 hgrow9 hat9 _; have HE9 := hide (app_post (W := w6) HF6.out HD6.out HG6.out HR6.out (fun k hk => by cases hk) hgrow9 (Nat.le_refl _) HS1.out HRB.out); have z96 := HE9.out.2.1.fz 6; have y96 := HE9.out.2.1.k6; obtain ⟨⟨xc0, xc1, xc2, xc3, xc4, xc5, xc6⟩, ⟨fc0, yc0⟩, ⟨fc1, yc1⟩, ⟨fc2, yc2⟩, ⟨fc3, yc3⟩, ⟨fc4, yc4⟩, ⟨fc5, yc5⟩, ⟨fc6, yc6⟩, ⟨kt0, kt1, kt2, kt3, kt4, kt5, kt6⟩⟩ := DBx.copyF (HE9.out.2.1.s6 (.slice (some ⟨g9, 0, none⟩) 1 cap9)) (HE9.out.2.2.1.oo (g := w1.heap.size) (i := 6) (x := .slice (some ⟨g9, 0, none⟩) 1 cap9) (by have := HS1.out; have := HRB.out; omega)); have HLN : Hid (LQ (w1.heap.size + 1) [tr] (.slice (some ⟨g9, 0, none⟩) 1 cap9) [.int .i64 kk, .int .i64 nn, .bool bb, .slice e1 e2 e3, .string tt, .slice i1 i2 i3, .slice r1 r2 r3] w9) := (LQ.snoc (I := ([] : List (Tr h))) (v := .slice none 0 0) (xs := []) (wr := w5.drew) (w2 := w6) (g := g9) (cap := cap9) (LQ.nil h _ _) HSZ5.out HX6.out.size (fun b hb hl => HX6.out.block b hb (by show b ≠ rb; have := HS1.out; have := HRB.out; omega)) HQ6.out hown9 hgrow9 hat9); have HLI := hide ((((HLQ.out.fr HX5.out (by have := HS1.out; have := HRB.out; omega)).drew.fr HX6.out (by have := HS1.out; have := HRB.out; omega))).keep (fun g hg _ => (hgrow9.block g (by simp; omega) (fun e => by cases e)).trans (heap_alloc_old _ _ hg))); clear hown9 hgrow9 hat9))
                all_goals
                  go_wp2_with fail
                  refine bodyPost_ret (by simp [results, Try.results33, go_sem, kt0, kt1, kt2, kt3, kt4, kt5, kt6]; rfl) rfl ?_
                  have hs1 := HS1.out
                  have hrow := LQ.row (LQ.set (b := w1.heap.size) (i := 6) (u := .slice (some ⟨g9, 0, none⟩) 1 cap9) HLI.out (by omega)) (B := w.heap.size) (by omega) (W' := set7 (w9.setCell ⟨w1.heap.size, 6, none⟩ (.slice (some ⟨g9, 0, none⟩) 1 cap9)) w.heap.size (.int .i64 6) (.int .i64 0) (.bool false) (.slice none 0 0) (.string ⟨#[]⟩) (.slice ao i cap) (.slice (some ⟨g9, 0, none⟩) 1 cap9)) (fun k _ hk => set7_other (by omega) _ _ _ _ _ _ _)
                  have hrw2 := LQ.row (LQ.set (b := w1.heap.size) (i := 6) (u := .slice (some ⟨g9, 0, none⟩) 1 cap9) HLN.out (by omega)) (B := w.heap.size) (by omega) (W' := set7 (w9.setCell ⟨w1.heap.size, 6, none⟩ (.slice (some ⟨g9, 0, none⟩) 1 cap9)) w.heap.size (.int .i64 6) (.int .i64 0) (.bool false) (.slice none 0 0) (.string ⟨#[]⟩) (.slice ao i cap) (.slice (some ⟨g9, 0, none⟩) 1 cap9)) (fun k _ hk => set7_other (by omega) _ _ _ _ _ _ _)
                  refine okL.mkyes HOX.out rfl ?_ ⟨set7_fr (HE9.out.1.setCell (g := w1.heap.size) (fun e => by have := HS1.out; have := HRB.out; omega) 6 _) (Nat.le_refl _) _ _ _ _ _ _ _, ?_⟩
                  · exact ⟨_, _, _, rfl, by decide, nilSl _, (fun j hj => by cases hj), hrow.1, hrw2.1, .inl rfl, hrow.2, hrw2.2⟩
                  · exact (HE9.out.2.2.2.setO (by have := HS1.out; have := HRB.out; omega)).set7 HRB.out _ _ _ _ _ _ _
            · have HOX : Hid (out = none) := by unfold Hid; rw [HO3, rst_many hr5 hn0 hn1]
              have g51 : decide ((n5 : Int) > 1) = true := decide_eq_true (by omega)
              have g52 : ((n5 : Int) == 1) = false := by rw [beq_eq_false_iff_ne]; omega
              clear hD hG hR hF ho HO2 HO3 e hIl h8mm hL hr5 h85 hle5 hml5 hn0 hn1
              go_wp2_with (go_at_call 30; refine K5.out.mono ?_; rintro e5 w5 ⟨rfl, F5, hr5⟩; have D5 := HST.1.out.frr F5 (by have := HS1.out; have := HRB.out; omega); have G5 := HST.2.1.out.frr F5 (by have := HS1.out; have := HRB.out; omega); have b5 := hr5.k1; have z5 := hr5.fz 1; have y50 := D5.k0; have D5b := D5.oo (g := rb) (i := 1) (x := .bool true) (by have := HS1.out; have := HRB.out; omega); have G5b := G5.oo (g := rb) (i := 1) (x := .bool true) (by have := HS1.out; have := HRB.out; omega); obtain ⟨⟨x80, x81, x82, x83, x84, x85, x86⟩, ⟨f80, y80⟩, ⟨f81, y81⟩, ⟨f82, y82⟩, ⟨f83, y83⟩, ⟨f84, y84⟩, ⟨f85, y85⟩, ⟨f86, y86⟩, ⟨ks0, ks1, ks2, ks3, ks4, ks5, ks6⟩⟩ := DBx.copyF D5b G5b; have b5b := (hr5.bad true).k1; have HD5 := hide D5; have HG5 := hide G5; have HR5 := hide hr5; have HF5 := hide (HST.2.2.out.trans F5 (fun _ _ e => e)); have HX5 := hide F5; clear F5 hr5 D5 G5 D5b G5b)
              refine bodyPost_ret (by simp [results, Try.results33, go_sem, ks0, ks1, ks2, ks3, ks4, ks5, ks6]; rfl) rfl ?_
              exact okL.mkno (by first | exact HOX.out | rfl) (LB.set7 (HF5.out.setCell (g := rb) (fun _ => rfl) 1 (.bool true)) (HR5.out.bad true) HRB.out (Nat.le_refl _) _ _ _ _ _ _ _) rfl
    · have b9 := hR.k1
      have HOX : Hid (out = none) := by unfold Hid; rw [HO.out, ho]
      obtain ⟨⟨x90, x91, x92, x93, x94, x95, x96⟩, ⟨f90, y90⟩, ⟨f91, y91⟩, ⟨f92, y92⟩, ⟨f93, y93⟩, ⟨f94, y94⟩, ⟨f95, y95⟩, ⟨f96, y96⟩, ⟨kr0, kr1, kr2, kr3, kr4, kr5, kr6⟩⟩ := DBx.copyF hD hG
      have HR := hide hR
      have HF := hide hF
      clear hD hG hR hF ho
      by_cases hz : (i : Int) < (n : Int)
      · go_wp2_with fail
        refine bodyPost_ret (by simp [results, Try.results33, go_sem, kr0, kr1, kr2, kr3, kr4, kr5, kr6]; rfl) rfl ?_
        exact okL.mkno (by first | exact HOX.out | rfl) (LB.set7 HF.out HR.out HRB.out (Nat.le_refl _) _ _ _ _ _ _ _) rfl
      · go_wp2_with fail
        refine bodyPost_ret (by simp [results, Try.results33, go_sem, kr0, kr1, kr2, kr3, kr4, kr5, kr6]; rfl) rfl ?_
        exact okL.mkno (by first | exact HOX.out | rfl) (LB.set7 HF.out HR.out HRB.out (Nat.le_refl _) _ _ _ _ _ _ _) rfl

end Go.Proofs.Ytilcigjhogcjkaa
