/-
  What is proved here: the document's datum (package tandemref10): a datum of kind 6n. the document's datum (package tandemref10): a datum of kind 7. the document's datum (package tandemref10): a datum of kind 7n. the document's datum (package tandemref10): a datum of kind 8. the document's datum (package tandemref10): a datum of kind 9. the document's datum (package tandemref10): a datum of kind o. the document's datum (package tandemref10), of any height. the document's reader of a program (tandemref10.Read), of any bytes that lie there.
-/
import Derived.Test.YtilcigjhogcjkaaPZ12
import Derived.Test.YtilcigjhogcjkaaPZ11
import Derived.Test.YtilcigjhogcjkaaPZ16
import Derived.Test.YtilcigjhogcjkaaPZ17
import Derived.Test.YtilcigjhogcjkaaYRRLDat6
import Derived.Test.YtilcigjhogcjkaaYRRLRead
import Derived.Test.YtilcigjhogcjkaaPZ13
import Derived.Test.YtilcigjhogcjkaaPZ15
namespace Go.Proofs.Ytilcigjhogcjkaa
open Go Go.RowKit

set_option maxRecDepth 20000 in
set_option maxHeartbeats 4000000 in
theorem ldat_6n {h : Nat} (w0 w : World) (rb p dp : Nat) (dep : Int) (l m : List Nat) (hr : RfS w0 w rb l false (p : Int)) (h8 : By8 l) (_hl : l.length ≤ 100000000) (hp : p ≤ 20000) (hp1 : 1 ≤ p) (hd : dp + 1 ≤ 100) (hdep : dep = 100 - (dp : Int)) (hn : rdNum l = some (6, m)) (hq : rdNum m = none) :
    Calls Try.prog 33 #[.pointer (some ⟨rb, 0, none⟩), .int .i64 dep] w fun e w' => okL w0 w rb w.heap.size (lrDat (h + 1) (dp + 1) l p) e w' := by
  obtain ⟨out, hout⟩ : ∃ o, o = lrDat (h + 1) (dp + 1) l p := ⟨_, rfl⟩
  rw [← hout]
  have hrb := hr.lt
  have hA0 := hr.mono (up_alloc w (.cells #[.int .i64 0, .int .i64 0, .bool false, .slice none 0 0, .string ⟨#[]⟩, .slice none 0 0, .slice none 0 0] 64))
  have x2 := hA0.k2
  have z2 := hA0.fz 2
  have hB1 := hA0.left ((p : Int) - 1)
  have x3 := hB1.k2
  have HD4 : Hid (DBx ((w.alloc (.cells #[.int .i64 0, .int .i64 0, .bool false, .slice none 0 0, .string ⟨#[]⟩, .slice none 0 0, .slice none 0 0] 64)).setCell ⟨rb, 2, none⟩ (.int .i64 ((p : Int) - 1))) w.heap.size (.int .i64 0) (.int .i64 0) (.bool false) (.slice none 0 0) (.string ⟨#[]⟩) (.slice none 0 0) (.slice none 0 0)) := (heap_setCell_other _ _ _ _ (show w.heap.size ≠ rb from by omega)).trans (heap_alloc_new w _)
  have HF0 : Hid (Fr (fun j => j = rb) w ((w.alloc (.cells #[.int .i64 0, .int .i64 0, .bool false, .slice none 0 0, .string ⟨#[]⟩, .slice none 0 0, .slice none 0 0] 64)).setCell ⟨rb, 2, none⟩ (.int .i64 ((p : Int) - 1)))) := ((Fr.refl (fun j => j = rb) w).alloc _).setCell (fun _ => rfl) _ _
  have HRB := hide hrb
  have g1 : ¬ ((p : Int) - 1 < 0) := by omega
  have g2 : ¬ (dep > 100) := by omega
  have K0 := hide ((lnum_any w0 _ rb l _ hB1 h8).mono (fun _ _ x => x.yes hn))
  have h8m := rdNum_by8 hn h8
  have HO : Hid (out = none) := by
    unfold Hid
    rw [hout]
    simp only [lrDat, hn]
    rw [if_neg (by omega)]
    simp [lrFld, lrDta, hq]
  have KN := hide (fun (W : World) (h' : RfS w0 W rb m false ((p : Int) - 1)) => (lnum_any w0 W rb m _ h' h8m).mono (fun _ _ x => x.no hq))
  clear hr hrb hA0 hB1 h8 hn hout hq h8m
  go_enter Try.func33, Try.ntmps33
  go_wp2_with (first
    | (have hx := HR1; clear hx; go_at_call 30; refine (KN.out _ HR1.out).mono ?_; rintro e3 w3 ⟨n3, hn3, rfl, F3, l3, q3, hr3⟩; have HD3 := hide (HD5.out.frr F3 (by have := HS1.out; have := HRB.out; omega)); have HG3 := hide (HG5.out.frr F3 (by have := HS1.out; have := HRB.out; omega)); have HR3 := hide hr3; have HF3 := hide (HF1.out.trans F3 (fun _ _ e => e)); clear F3 hr3)
    | (go_at_call 30; refine K0.out.mono ?_; rintro e1 w1 ⟨rfl, F1, hr1⟩; have d4 := (HD4.out.frr F1 (by have := HRB.out; omega)).al (.cells #[.int .i64 6, .int .i64 0, .bool false, .slice none 0 0, .string ⟨#[]⟩, .slice none 0 0, .slice none 0 0] 64); have d5 : DBx (w1.alloc (.cells #[.int .i64 6, .int .i64 0, .bool false, .slice none 0 0, .string ⟨#[]⟩, .slice none 0 0, .slice none 0 0] 64)) w1.heap.size (.int .i64 6) (.int .i64 0) (.bool false) (.slice none 0 0) (.string ⟨#[]⟩) (.slice none 0 0) (.slice none 0 0) := heap_alloc_new w1 _; have hs1 : w.heap.size < w1.heap.size := (HD4.out.frr F1 (by have := HRB.out; omega)).lt; have hr2 := hr1.mono (up_alloc w1 (.cells #[.int .i64 6, .int .i64 0, .bool false, .slice none 0 0, .string ⟨#[]⟩, .slice none 0 0, .slice none 0 0] 64)); have b1 := hr2.k1; have zz1 := hr2.fz 1; have x10 := d5.k0; have HS1 : Hid (w.heap.size < w1.heap.size) := hs1; have HR1 := hide hr2; have HD5 := hide d5; have HG5 := hide d4; have HF1 := hide ((HF0.out.trans F1 (fun _ _ e => e)).alloc (.cells #[.int .i64 6, .int .i64 0, .bool false, .slice none 0 0, .string ⟨#[]⟩, .slice none 0 0, .slice none 0 0] 64)); clear F1 hr1 hr2 d4 d5 hs1))
  go_loopw [10] (fun a7 wr => ∃ l' q', a7 = .int .i64 0 ∧ DBx wr w1.heap.size (.int .i64 6) (.int .i64 0) (.bool false) (.slice none 0 0) (.string ⟨#[]⟩) (.slice none 0 0) (.slice none 0 0) ∧ DBx wr w.heap.size (.int .i64 0) (.int .i64 0) (.bool false) (.slice none 0 0) (.string ⟨#[]⟩) (.slice none 0 0) (.slice none 0 0) ∧ RfS w0 wr rb l' true q' ∧ Fr (fun j => j = rb) w wr) (fun _ _ => 0)
  case atStart => exact ⟨_, _, rfl, HD3.out, HG3.out, HR3.out, HF3.out⟩
  case round =>
    obtain ⟨l', q', rfl, hD, hG, hR, hF⟩ := hrel
    have b9 := hR.k1
    obtain ⟨⟨x90, x91, x92, x93, x94, x95, x96⟩, ⟨f90, y90⟩, ⟨f91, y91⟩, ⟨f92, y92⟩, ⟨f93, y93⟩, ⟨f94, y94⟩, ⟨f95, y95⟩, ⟨f96, y96⟩, ⟨kr0, kr1, kr2, kr3, kr4, kr5, kr6⟩⟩ := DBx.copyF hD hG
    have HR := hide hR
    have HF := hide hF
    clear hD hG hR hF
    by_cases hz : 0 < n3
    · have gz : (0 : Int) < (n3 : Int) := by omega
      go_wp2_with fail
      refine bodyPost_ret (by simp [results, Try.results33, go_sem, kr0, kr1, kr2, kr3, kr4, kr5, kr6]; rfl) rfl ?_
      exact okL.mkno (by first | exact HO.out | rfl) (LB.set7 HF.out HR.out HRB.out (Nat.le_refl _) _ _ _ _ _ _ _) rfl
    · have gz : ¬ ((0 : Int) < (n3 : Int)) := by omega
      go_wp2_with fail
      refine bodyPost_ret (by simp [results, Try.results33, go_sem, kr0, kr1, kr2, kr3, kr4, kr5, kr6]; rfl) rfl ?_
      exact okL.mkno (by first | exact HO.out | rfl) (LB.set7 HF.out HR.out HRB.out (Nat.le_refl _) _ _ _ _ _ _ _) rfl

set_option maxRecDepth 20000 in
set_option maxHeartbeats 20000000 in
theorem ldat_7 {h : Nat} (hD0 : LDOK h) (w0 w : World) (rb p dp : Nat) (dep : Int) (l m : List Nat) (hr : RfS w0 w rb l false (p : Int)) (h8 : By8 l) (hl : l.length ≤ 100000000) (hp : p ≤ 20000) (hp1 : 1 ≤ p) (hd : dp + 1 ≤ 100) (hdep : dep = 100 - (dp : Int)) (hh : dp ≤ h) (hn : rdNum l = some (7, m)) (m2 : List Nat) (n : Nat) (hq : rdNum m = some (n, m2)) :
    Calls Try.prog 33 #[.pointer (some ⟨rb, 0, none⟩), .int .i64 dep] w fun e w' => okL w0 w rb w.heap.size (lrDat (h + 1) (dp + 1) l p) e w' := by
  obtain ⟨out, hout⟩ : ∃ o, o = lrDat (h + 1) (dp + 1) l p := ⟨_, rfl⟩
  rw [← hout]
  have hrb := hr.lt
  have hA0 := hr.mono (up_alloc w (.cells #[.int .i64 0, .int .i64 0, .bool false, .slice none 0 0, .string ⟨#[]⟩, .slice none 0 0, .slice none 0 0] 64))
  have x2 := hA0.k2
  have z2 := hA0.fz 2
  have hB1 := hA0.left ((p : Int) - 1)
  have x3 := hB1.k2
  have HD4 : Hid (DBx ((w.alloc (.cells #[.int .i64 0, .int .i64 0, .bool false, .slice none 0 0, .string ⟨#[]⟩, .slice none 0 0, .slice none 0 0] 64)).setCell ⟨rb, 2, none⟩ (.int .i64 ((p : Int) - 1))) w.heap.size (.int .i64 0) (.int .i64 0) (.bool false) (.slice none 0 0) (.string ⟨#[]⟩) (.slice none 0 0) (.slice none 0 0)) := (heap_setCell_other _ _ _ _ (show w.heap.size ≠ rb from by omega)).trans (heap_alloc_new w _)
  have HF0 : Hid (Fr (fun j => j = rb) w ((w.alloc (.cells #[.int .i64 0, .int .i64 0, .bool false, .slice none 0 0, .string ⟨#[]⟩, .slice none 0 0, .slice none 0 0] 64)).setCell ⟨rb, 2, none⟩ (.int .i64 ((p : Int) - 1)))) := ((Fr.refl (fun j => j = rb) w).alloc _).setCell (fun _ => rfl) _ _
  have HRB := hide hrb
  have g1 : ¬ ((p : Int) - 1 < 0) := by omega
  have g2 : ¬ (dep > 100) := by omega
  have K0 := hide ((lnum_any w0 _ rb l _ hB1 h8).mono (fun _ _ x => x.yes hn))
  have h8m := rdNum_by8 hn h8
  obtain ⟨iD, hiD, zD0, zD1, zD2⟩ := info_parts infoD
  have h82 := rdNum_by8 hq h8m
  have hnl := rdNum_le hq
  have hml2 : m2.length ≤ 100000000 := Nat.le_trans ((rdNum_suf hq).trans (rdNum_suf hn)).length_le hl
  have HO : out = match rdRowP (lrDat h dp) n m2 (p - 1) with | none => none | some (I, m1, q1) => some (((7 : Int), (0 : Int), false, [], ⟨#[]⟩, I, []), m1, q1) := by
    rw [hout]
    simp only [lrDat, hn]
    rw [if_neg (by omega)]
    simp only [lrFld, lrDta, hq]
    first | rfl | simp
  obtain ⟨mo, hmo⟩ : ∃ mo, mo = rdRowP (lrDat h dp) n m2 (p - 1) := ⟨_, rfl⟩
  rw [← hmo] at HO
  replace HO := hide HO
  have HMO := hide hmo
  have H82 := hide (And.intro h82 hml2)
  have HDD := hide hD0
  have eqp : (p : Int) - 1 = ((p - 1 : Nat) : Int) := by omega
  have HEQ := hide eqp
  have KN := hide (fun (W : World) (h' : RfS w0 W rb m false ((p : Int) - 1)) => (lnum_any w0 W rb m _ h' h8m).mono (fun _ _ x => x.yes hq))
  clear hr hrb hA0 hB1 h8 hn hout hq h8m h82 hml2 hmo hD0 eqp
  go_enter Try.func33, Try.ntmps33
  go_wp2_with (first
    | (have hx := HR1; clear hx; go_at_call 30; refine (KN.out _ HR1.out).mono ?_; rintro e3 w3 ⟨rfl, F3, hr3⟩; have HD3 := hide (HD5.out.frr F3 (by have := HS1.out; have := HRB.out; omega)); have HG3 := hide (HG5.out.frr F3 (by have := HS1.out; have := HRB.out; omega)); have HR3 := hide hr3; have HF3 := hide (HF1.out.trans F3 (fun _ _ e => e)); clear F3 hr3)
    | (go_at_call 30; refine K0.out.mono ?_; rintro e1 w1 ⟨rfl, F1, hr1⟩; have d4 := (HD4.out.frr F1 (by have := HRB.out; omega)).al (.cells #[.int .i64 7, .int .i64 0, .bool false, .slice none 0 0, .string ⟨#[]⟩, .slice none 0 0, .slice none 0 0] 64); have d5 : DBx (w1.alloc (.cells #[.int .i64 7, .int .i64 0, .bool false, .slice none 0 0, .string ⟨#[]⟩, .slice none 0 0, .slice none 0 0] 64)) w1.heap.size (.int .i64 7) (.int .i64 0) (.bool false) (.slice none 0 0) (.string ⟨#[]⟩) (.slice none 0 0) (.slice none 0 0) := heap_alloc_new w1 _; have hs1 : w.heap.size < w1.heap.size := (HD4.out.frr F1 (by have := HRB.out; omega)).lt; have hr2 := hr1.mono (up_alloc w1 (.cells #[.int .i64 7, .int .i64 0, .bool false, .slice none 0 0, .string ⟨#[]⟩, .slice none 0 0, .slice none 0 0] 64)); have b1 := hr2.k1; have zz1 := hr2.fz 1; have x10 := d5.k0; have HS1 : Hid (w.heap.size < w1.heap.size) := hs1; have HR1 := hide hr2; have HD5 := hide d5; have HG5 := hide d4; have HF1 := hide ((HF0.out.trans F1 (fun _ _ e => e)).alloc (.cells #[.int .i64 7, .int .i64 0, .bool false, .slice none 0 0, .string ⟨#[]⟩, .slice none 0 0, .slice none 0 0] 64)); clear F1 hr1 hr2 d4 d5 hs1))
  go_loopw [10] (fun a10 wr => ∃ (i : Nat) (I : List (Tr h)) (xs : List Value) (ao : Option Addr) (cap : Nat), i ≤ n ∧ a10 = .int .i64 (i : Int) ∧ Fr (fun j => j = rb) w wr ∧ DBx wr w1.heap.size (.int .i64 7) (.int .i64 0) (.bool false) (.slice none 0 0) (.string ⟨#[]⟩) (.slice ao i cap) (.slice none 0 0) ∧ DBx wr w.heap.size (.int .i64 0) (.int .i64 0) (.bool false) (.slice none 0 0) (.string ⟨#[]⟩) (.slice none 0 0) (.slice none 0 0) ∧ ((∃ (mm : List Nat) (q : Nat), I.length = i ∧ By8 mm ∧ mm.length ≤ 100000000 ∧ q ≤ 20000 ∧ LQ (w1.heap.size + 1) I (.slice ao i cap) xs wr ∧ RfS w0 wr rb mm false (q : Int) ∧ mo = moreP I (rdRowP (lrDat h dp) (n - i) mm q)) ∨ (∃ mm q, RfS w0 wr rb mm true q ∧ mo = none))) (fun a10 _ => n - (intOf a10).toNat)
  case atStart => exact ⟨0, [], [], none, 0, Nat.zero_le _, rfl, HF3.out, HD3.out, HG3.out, .inl ⟨m2, p - 1, rfl, H82.out.1, H82.out.2, by omega, LQ.nil _ _ _, by have := HR3.out; rw [HEQ.out] at this; exact this, by rw [moreP_nil]; exact HMO.out⟩⟩
  case round =>
    obtain ⟨i, I, xs, ao, cap, hi, rfl, hF, hD, hG, hcase⟩ := hrel
    clear HR1 HD5 HG5 HD3 HG3 HR3 HF1 HF3
    rcases hcase with ⟨mm, q, hIl, h8mm, hml, hq2, hL, hR, ho⟩ | ⟨mm, q, hR, ho⟩
    · have b9 := hR.k1
      have HIL := hide hIl
      by_cases hil : i < n
      · have hiI : (i : Int) < (n : Int) := by omega
        rw [show n - i = (n - (i + 1)) + 1 by omega] at ho
        have K4a := fun (dep' : Int) (hdep' : dep' = 101 - (dp : Int)) => HDD.out w0 wr.drew rb q dp dep' mm hR.drew h8mm hml hq2 (by omega) hh hdep'
        have x95 := hD.k5
        have HST : Hid (DBx wr w1.heap.size (.int .i64 7) (.int .i64 0) (.bool false) (.slice none 0 0) (.string ⟨#[]⟩) (.slice ao i cap) (.slice none 0 0)) ∧ Hid (DBx wr w.heap.size (.int .i64 0) (.int .i64 0) (.bool false) (.slice none 0 0) (.string ⟨#[]⟩) (.slice none 0 0) (.slice none 0 0)) ∧ Hid (Fr (fun j => j = rb) w wr) := ⟨hD, hG, hF⟩
        have HLQ := hide hL
        have HLB : Hid (∀ k, (Value.slice ao i cap).ownBlock = some k → w1.heap.size + 1 ≤ k) := fun k hk => (hL.own.lt k hk).1
        have HSZ : Hid (w1.heap.size + 1 ≤ wr.heap.size) := hD.lt
        cases hx : lrDat h dp mm q with
        | none =>
          have K4 := hide (fun (dep' : Int) (hdep' : dep' = 101 - (dp : Int)) => (K4a dep' hdep').mono (fun _ _ x => x.no hx))
          have HO2 : Hid (mo = none) := ho.trans (moreP_no hx)
          clear hF hD hG hL hR ho h8mm hx hIl K4a
          go_upto_region 35 with fail
          go_region_law (first
            | (rw [if_pos (by rfl)]; go_simp; refine (K4.out _ (by first | omega | (rw [IntKind.wrap_i64]; omega))).mono ?_; rintro e4 w4 ⟨kk, nn, bb, e1, e2, e3, tt, i1, i2, i3, r1, r2, r3, rfl, F4, l4, q4, hr4⟩; have D4 := (HST.1.out.drew).frr F4 (by have := HS1.out; have := HRB.out; omega); have yl4 := D4.k5; have ym4 := (D4.al (.cells #[.int .i64 kk, .int .i64 nn, .bool bb, .slice e1 e2 e3, .string tt, .slice i1 i2 i3, .slice r1 r2 r3] 64)).k5; have HOW4 : Hid (w4.ownsRow (w1.heap.size + 1) 64 7 (.slice ao i cap) i xs) := (by have := (HLQ.out.drew.fr F4 (by have := HS1.out; have := HRB.out; omega)).own; rw [HIL.out] at this; exact this); have HD4 := hide D4; have HG4 := hide ((HST.2.1.out.drew).frr F4 (by have := HS1.out; have := HRB.out; omega)); have HR4 := hide hr4; have HF4 := hide ((HST.2.2.out.drew).trans F4 (fun _ _ e => e)); have HX4 := hide F4; clear F4 hr4 D4)
            | (refine step_append_lies _ (by rfl) _ _ 45 (by rfl) (w1.heap.size + 1) 64 iD _ 7 112 Try.underlying45 hiD zD0 zD1 zD2 rfl (by decide) _ i xs (by rfl) (HOW4.out.alloc _) ⟨w4.heap.size, 0, none⟩ 1 1 [.int .i64 kk, .int .i64 nn, .bool bb, .slice e1 e2 e3, .string tt, .slice i1 i2 i3, .slice r1 r2 r3] (by rfl) rfl (hcells7 w4 _ _ _ _ _ _ _ _) (ones7 _ _ _ _ _ _ _ _ _ _ _ _ _) (by decide) (by unfold maxLen; omega) (by omega) (by have := HD4.out.lt; simp; omega) (w4.heap.size + 1) (by simp) ?_; intro g9 cap9 w9 hown9 hgrow9 hat9 _; have HE9 := hide (app_post (W := w4) HF4.out HD4.out HG4.out HR4.out (fun k hk => (HLB.out k hk)) hgrow9 (Nat.le_refl _) HS1.out HRB.out); have z95 := HE9.out.2.1.fz 5; have y95 := HE9.out.2.1.k5; clear hown9 hgrow9 hat9))
          all_goals
            go_wp2_with fail
            refine ⟨⟨i + 1, [], [], _, _, hil, by go_num, HE9.out.1.setCell (g := w1.heap.size) (fun e => by have := HS1.out; have := HRB.out; omega) 5 _, HE9.out.2.1.s5 _, HE9.out.2.2.1.oo (by have := HS1.out; have := HRB.out; omega), .inr ⟨_, _, HE9.out.2.2.2.setO (by have := HS1.out; have := HRB.out; omega), HO2.out⟩⟩, by simp [intOf]; omega⟩
        | some y =>
          obtain ⟨tr, m3, q3⟩ := y
          have hsf := lrDat_suf h dp _ _ _ _ _ hx
          have H83 : Hid (By8 m3 ∧ m3.length ≤ 100000000 ∧ q3 ≤ 20000) := ⟨h8mm.suf hsf.1, Nat.le_trans hsf.1.length_le hml, Nat.le_trans hsf.2 hq2⟩
          have K4 := hide (fun (dep' : Int) (hdep' : dep' = 101 - (dp : Int)) => (K4a dep' hdep').mono (fun _ _ x => x.yes hx))
          have HO2 : Hid (mo = moreP (I ++ [tr]) (rdRowP (lrDat h dp) (n - (i + 1)) m3 q3)) := ho.trans (moreP_yes hx)
          clear hF hD hG hL hR ho h8mm hx hIl K4a hsf
          go_upto_region 35 with fail
          go_region_law (first
            | (rw [if_pos (by rfl)]; go_simp; refine (K4.out _ (by first | omega | (rw [IntKind.wrap_i64]; omega))).mono ?_; rintro e4 w4 ⟨kk, nn, bb, e1, e2, e3, tt, i1, i2, i3, r1, r2, r3, rfl, hdq, F4, hr4⟩; have D4 := (HST.1.out.drew).frr F4 (by have := HS1.out; have := HRB.out; omega); have yl4 := D4.k5; have ym4 := (D4.al (.cells #[.int .i64 kk, .int .i64 nn, .bool bb, .slice e1 e2 e3, .string tt, .slice i1 i2 i3, .slice r1 r2 r3] 64)).k5; have HOW4 : Hid (w4.ownsRow (w1.heap.size + 1) 64 7 (.slice ao i cap) i xs) := (by have := (HLQ.out.drew.fr F4 (by have := HS1.out; have := HRB.out; omega)).own; rw [HIL.out] at this; exact this); have HD4 := hide D4; have HG4 := hide ((HST.2.1.out.drew).frr F4 (by have := HS1.out; have := HRB.out; omega)); have HR4 := hide hr4; have HF4 := hide ((HST.2.2.out.drew).trans F4 (fun _ _ e => e)); have HX4 := hide F4; have HQ4 := hide hdq; clear F4 hr4 D4 hdq)
            | (refine step_append_lies _ (by rfl) _ _ 45 (by rfl) (w1.heap.size + 1) 64 iD _ 7 112 Try.underlying45 hiD zD0 zD1 zD2 rfl (by decide) _ i xs (by rfl) (HOW4.out.alloc _) ⟨w4.heap.size, 0, none⟩ 1 1 [.int .i64 kk, .int .i64 nn, .bool bb, .slice e1 e2 e3, .string tt, .slice i1 i2 i3, .slice r1 r2 r3] (by rfl) rfl (hcells7 w4 _ _ _ _ _ _ _ _) (ones7 _ _ _ _ _ _ _ _ _ _ _ _ _) (by decide) (by unfold maxLen; omega) (by omega) (by have := HD4.out.lt; simp; omega) (w4.heap.size + 1) (by simp) ?_; intro g9 cap9 w9 hown9 hgrow9 hat9 _; have HE9 := hide (app_post (W := w4) HF4.out HD4.out HG4.out HR4.out (fun k hk => (HLB.out k hk)) hgrow9 (Nat.le_refl _) HS1.out HRB.out); have z95 := HE9.out.2.1.fz 5; have y95 := HE9.out.2.1.k5; have HLN : Hid (LQ (w1.heap.size + 1) (I ++ [tr]) (.slice (some ⟨g9, 0, none⟩) (i + 1) cap9) (xs ++ [.int .i64 kk, .int .i64 nn, .bool bb, .slice e1 e2 e3, .string tt, .slice i1 i2 i3, .slice r1 r2 r3]) w9) := (by have := LQ.snoc (I := I) (v := .slice ao i cap) (xs := xs) (wr := wr.drew) (w2 := w4) (g := g9) (cap := cap9) HLQ.out.drew HSZ.out HX4.out.size (fun b hb hl => HX4.out.block b hb (by show b ≠ rb; have := HS1.out; have := HRB.out; omega)) HQ4.out (by rw [HIL.out]; exact hown9) hgrow9 hat9; rw [HIL.out] at this; exact this); clear hown9 hgrow9 hat9))
          all_goals
            go_wp2_with fail
            refine ⟨⟨i + 1, I ++ [tr], _, _, _, hil, by go_num, HE9.out.1.setCell (g := w1.heap.size) (fun e => by have := HS1.out; have := HRB.out; omega) 5 _, HE9.out.2.1.s5 _, HE9.out.2.2.1.oo (by have := HS1.out; have := HRB.out; omega), .inl ⟨m3, q3, by simp [HIL.out], H83.out.1, H83.out.2.1, H83.out.2.2, LQ.set HLN.out (by omega), HE9.out.2.2.2.setO (by have := HS1.out; have := HRB.out; omega), HO2.out⟩⟩, by simp [intOf]; omega⟩
      · have hiI : ¬ ((i : Int) < (n : Int)) := by omega
        have e : i = n := by omega
        rw [show n - i = 0 by omega, rdRowP_zero] at ho
        have HO2 : mo = some (I, mm, q) := by rw [ho]; simp [moreP]
        have HOX : Hid (out = some (((7 : Int), (0 : Int), false, [], ⟨#[]⟩, I, []), mm, q)) := by unfold Hid; rw [HO.out, HO2]; rfl
        obtain ⟨⟨x90, x91, x92, x93, x94, x95, x96⟩, ⟨f90, y90⟩, ⟨f91, y91⟩, ⟨f92, y92⟩, ⟨f93, y93⟩, ⟨f94, y94⟩, ⟨f95, y95⟩, ⟨f96, y96⟩, ⟨kr0, kr1, kr2, kr3, kr4, kr5, kr6⟩⟩ := DBx.copyF hD hG
        have HR := hide hR
        have HF := hide hF
        have HL := hide hL
        clear hD hG hR hF ho HO2 e hIl h8mm hL
        go_wp2_with fail
        refine bodyPost_ret (by simp [results, Try.results33, go_sem, kr0, kr1, kr2, kr3, kr4, kr5, kr6]; rfl) rfl ?_
        have hs1 := HS1.out
        have hrow := LQ.row HL.out (B := w.heap.size) (by omega) (W' := set7 wr w.heap.size (.int .i64 7) (.int .i64 0) (.bool false) (.slice none 0 0) (.string ⟨#[]⟩) (.slice ao i cap) (.slice none 0 0)) (fun k _ hk => set7_other (by omega) _ _ _ _ _ _ _)
        refine okL.mkyes HOX.out rfl ?_ ⟨set7_fr HF.out (Nat.le_refl _) _ _ _ _ _ _ _, ?_⟩
        · exact ⟨_, _, _, rfl, by decide, nilSl _, (fun j hj => by cases hj), hrow.1, nilRow _ _, .inl rfl, hrow.2, .inl rfl⟩
        · exact HR.out.set7 HRB.out _ _ _ _ _ _ _
    · have b9 := hR.k1
      have HOX : Hid (out = none) := by unfold Hid; rw [HO.out, ho]
      obtain ⟨⟨x90, x91, x92, x93, x94, x95, x96⟩, ⟨f90, y90⟩, ⟨f91, y91⟩, ⟨f92, y92⟩, ⟨f93, y93⟩, ⟨f94, y94⟩, ⟨f95, y95⟩, ⟨f96, y96⟩, ⟨kr0, kr1, kr2, kr3, kr4, kr5, kr6⟩⟩ := DBx.copyF hD hG
      have HR := hide hR
      have HF := hide hF
      clear hD hG hR hF ho
      by_cases hz : (i : Int) < (n : Int)
      · go_wp2_with fail
        refine bodyPost_ret (by simp [results, Try.results33, go_sem, kr0, kr1, kr2, kr3, kr4, kr5, kr6]; rfl) rfl ?_
        exact okL.mkno (by first | exact HOX.out | rfl) (LB.set7 HF.out HR.out HRB.out (Nat.le_refl _) _ _ _ _ _ _ _) rfl
      · go_wp2_with fail
        refine bodyPost_ret (by simp [results, Try.results33, go_sem, kr0, kr1, kr2, kr3, kr4, kr5, kr6]; rfl) rfl ?_
        exact okL.mkno (by first | exact HOX.out | rfl) (LB.set7 HF.out HR.out HRB.out (Nat.le_refl _) _ _ _ _ _ _ _) rfl

set_option maxRecDepth 20000 in
set_option maxHeartbeats 4000000 in
theorem ldat_7n {h : Nat} (w0 w : World) (rb p dp : Nat) (dep : Int) (l m : List Nat) (hr : RfS w0 w rb l false (p : Int)) (h8 : By8 l) (_hl : l.length ≤ 100000000) (hp : p ≤ 20000) (hp1 : 1 ≤ p) (hd : dp + 1 ≤ 100) (hdep : dep = 100 - (dp : Int)) (hn : rdNum l = some (7, m)) (hq : rdNum m = none) :
    Calls Try.prog 33 #[.pointer (some ⟨rb, 0, none⟩), .int .i64 dep] w fun e w' => okL w0 w rb w.heap.size (lrDat (h + 1) (dp + 1) l p) e w' := by
  obtain ⟨out, hout⟩ : ∃ o, o = lrDat (h + 1) (dp + 1) l p := ⟨_, rfl⟩
  rw [← hout]
  have hrb := hr.lt
  have hA0 := hr.mono (up_alloc w (.cells #[.int .i64 0, .int .i64 0, .bool false, .slice none 0 0, .string ⟨#[]⟩, .slice none 0 0, .slice none 0 0] 64))
  have x2 := hA0.k2
  have z2 := hA0.fz 2
  have hB1 := hA0.left ((p : Int) - 1)
  have x3 := hB1.k2
  have HD4 : Hid (DBx ((w.alloc (.cells #[.int .i64 0, .int .i64 0, .bool false, .slice none 0 0, .string ⟨#[]⟩, .slice none 0 0, .slice none 0 0] 64)).setCell ⟨rb, 2, none⟩ (.int .i64 ((p : Int) - 1))) w.heap.size (.int .i64 0) (.int .i64 0) (.bool false) (.slice none 0 0) (.string ⟨#[]⟩) (.slice none 0 0) (.slice none 0 0)) := (heap_setCell_other _ _ _ _ (show w.heap.size ≠ rb from by omega)).trans (heap_alloc_new w _)
  have HF0 : Hid (Fr (fun j => j = rb) w ((w.alloc (.cells #[.int .i64 0, .int .i64 0, .bool false, .slice none 0 0, .string ⟨#[]⟩, .slice none 0 0, .slice none 0 0] 64)).setCell ⟨rb, 2, none⟩ (.int .i64 ((p : Int) - 1)))) := ((Fr.refl (fun j => j = rb) w).alloc _).setCell (fun _ => rfl) _ _
  have HRB := hide hrb
  have g1 : ¬ ((p : Int) - 1 < 0) := by omega
  have g2 : ¬ (dep > 100) := by omega
  have K0 := hide ((lnum_any w0 _ rb l _ hB1 h8).mono (fun _ _ x => x.yes hn))
  have h8m := rdNum_by8 hn h8
  have HO : Hid (out = none) := by
    unfold Hid
    rw [hout]
    simp only [lrDat, hn]
    rw [if_neg (by omega)]
    simp [lrFld, lrDta, hq]
  have KN := hide (fun (W : World) (h' : RfS w0 W rb m false ((p : Int) - 1)) => (lnum_any w0 W rb m _ h' h8m).mono (fun _ _ x => x.no hq))
  clear hr hrb hA0 hB1 h8 hn hout hq h8m
  go_enter Try.func33, Try.ntmps33
  go_wp2_with (first
    | (have hx := HR1; clear hx; go_at_call 30; refine (KN.out _ HR1.out).mono ?_; rintro e3 w3 ⟨n3, hn3, rfl, F3, l3, q3, hr3⟩; have HD3 := hide (HD5.out.frr F3 (by have := HS1.out; have := HRB.out; omega)); have HG3 := hide (HG5.out.frr F3 (by have := HS1.out; have := HRB.out; omega)); have HR3 := hide hr3; have HF3 := hide (HF1.out.trans F3 (fun _ _ e => e)); clear F3 hr3)
    | (go_at_call 30; refine K0.out.mono ?_; rintro e1 w1 ⟨rfl, F1, hr1⟩; have d4 := (HD4.out.frr F1 (by have := HRB.out; omega)).al (.cells #[.int .i64 7, .int .i64 0, .bool false, .slice none 0 0, .string ⟨#[]⟩, .slice none 0 0, .slice none 0 0] 64); have d5 : DBx (w1.alloc (.cells #[.int .i64 7, .int .i64 0, .bool false, .slice none 0 0, .string ⟨#[]⟩, .slice none 0 0, .slice none 0 0] 64)) w1.heap.size (.int .i64 7) (.int .i64 0) (.bool false) (.slice none 0 0) (.string ⟨#[]⟩) (.slice none 0 0) (.slice none 0 0) := heap_alloc_new w1 _; have hs1 : w.heap.size < w1.heap.size := (HD4.out.frr F1 (by have := HRB.out; omega)).lt; have hr2 := hr1.mono (up_alloc w1 (.cells #[.int .i64 7, .int .i64 0, .bool false, .slice none 0 0, .string ⟨#[]⟩, .slice none 0 0, .slice none 0 0] 64)); have b1 := hr2.k1; have zz1 := hr2.fz 1; have x10 := d5.k0; have HS1 : Hid (w.heap.size < w1.heap.size) := hs1; have HR1 := hide hr2; have HD5 := hide d5; have HG5 := hide d4; have HF1 := hide ((HF0.out.trans F1 (fun _ _ e => e)).alloc (.cells #[.int .i64 7, .int .i64 0, .bool false, .slice none 0 0, .string ⟨#[]⟩, .slice none 0 0, .slice none 0 0] 64)); clear F1 hr1 hr2 d4 d5 hs1))
  go_loopw [10] (fun a7 wr => ∃ l' q', a7 = .int .i64 0 ∧ DBx wr w1.heap.size (.int .i64 7) (.int .i64 0) (.bool false) (.slice none 0 0) (.string ⟨#[]⟩) (.slice none 0 0) (.slice none 0 0) ∧ DBx wr w.heap.size (.int .i64 0) (.int .i64 0) (.bool false) (.slice none 0 0) (.string ⟨#[]⟩) (.slice none 0 0) (.slice none 0 0) ∧ RfS w0 wr rb l' true q' ∧ Fr (fun j => j = rb) w wr) (fun _ _ => 0)
  case atStart => exact ⟨_, _, rfl, HD3.out, HG3.out, HR3.out, HF3.out⟩
  case round =>
    obtain ⟨l', q', rfl, hD, hG, hR, hF⟩ := hrel
    have b9 := hR.k1
    obtain ⟨⟨x90, x91, x92, x93, x94, x95, x96⟩, ⟨f90, y90⟩, ⟨f91, y91⟩, ⟨f92, y92⟩, ⟨f93, y93⟩, ⟨f94, y94⟩, ⟨f95, y95⟩, ⟨f96, y96⟩, ⟨kr0, kr1, kr2, kr3, kr4, kr5, kr6⟩⟩ := DBx.copyF hD hG
    have HR := hide hR
    have HF := hide hF
    clear hD hG hR hF
    by_cases hz : 0 < n3
    · have gz : (0 : Int) < (n3 : Int) := by omega
      go_wp2_with fail
      refine bodyPost_ret (by simp [results, Try.results33, go_sem, kr0, kr1, kr2, kr3, kr4, kr5, kr6]; rfl) rfl ?_
      exact okL.mkno (by first | exact HO.out | rfl) (LB.set7 HF.out HR.out HRB.out (Nat.le_refl _) _ _ _ _ _ _ _) rfl
    · have gz : ¬ ((0 : Int) < (n3 : Int)) := by omega
      go_wp2_with fail
      refine bodyPost_ret (by simp [results, Try.results33, go_sem, kr0, kr1, kr2, kr3, kr4, kr5, kr6]; rfl) rfl ?_
      exact okL.mkno (by first | exact HO.out | rfl) (LB.set7 HF.out HR.out HRB.out (Nat.le_refl _) _ _ _ _ _ _ _) rfl

set_option maxRecDepth 20000 in
set_option maxHeartbeats 4000000 in
theorem ldat_8 {h : Nat} (w0 w : World) (rb p dp : Nat) (dep : Int) (l m : List Nat) (hr : RfS w0 w rb l false (p : Int)) (h8 : By8 l) (_hl : l.length ≤ 100000000) (hp : p ≤ 20000) (hp1 : 1 ≤ p) (hd : dp + 1 ≤ 100) (hdep : dep = 100 - (dp : Int)) (hn : rdNum l = some (8, m)) :
    Calls Try.prog 33 #[.pointer (some ⟨rb, 0, none⟩), .int .i64 dep] w fun e w' => okL w0 w rb w.heap.size (lrDat (h + 1) (dp + 1) l p) e w' := by
  obtain ⟨out, hout⟩ : ∃ o, o = lrDat (h + 1) (dp + 1) l p := ⟨_, rfl⟩
  rw [← hout]
  have hrb := hr.lt
  have hA0 := hr.mono (up_alloc w (.cells #[.int .i64 0, .int .i64 0, .bool false, .slice none 0 0, .string ⟨#[]⟩, .slice none 0 0, .slice none 0 0] 64))
  have x2 := hA0.k2
  have z2 := hA0.fz 2
  have hB1 := hA0.left ((p : Int) - 1)
  have x3 := hB1.k2
  have HD4 : Hid (DBx ((w.alloc (.cells #[.int .i64 0, .int .i64 0, .bool false, .slice none 0 0, .string ⟨#[]⟩, .slice none 0 0, .slice none 0 0] 64)).setCell ⟨rb, 2, none⟩ (.int .i64 ((p : Int) - 1))) w.heap.size (.int .i64 0) (.int .i64 0) (.bool false) (.slice none 0 0) (.string ⟨#[]⟩) (.slice none 0 0) (.slice none 0 0)) := (heap_setCell_other _ _ _ _ (show w.heap.size ≠ rb from by omega)).trans (heap_alloc_new w _)
  have HF0 : Hid (Fr (fun j => j = rb) w ((w.alloc (.cells #[.int .i64 0, .int .i64 0, .bool false, .slice none 0 0, .string ⟨#[]⟩, .slice none 0 0, .slice none 0 0] 64)).setCell ⟨rb, 2, none⟩ (.int .i64 ((p : Int) - 1)))) := ((Fr.refl (fun j => j = rb) w).alloc _).setCell (fun _ => rfl) _ _
  have HRB := hide hrb
  have g1 : ¬ ((p : Int) - 1 < 0) := by omega
  have g2 : ¬ (dep > 100) := by omega
  have K0 := hide ((lnum_any w0 _ rb l _ hB1 h8).mono (fun _ _ x => x.yes hn))
  have HO : Hid (out = some (((8 : Int), (0 : Int), false, [], ⟨#[]⟩, [], []), m, p - 1)) := by
    unfold Hid
    rw [hout]
    simp only [lrDat, hn]
    rw [if_neg (by omega)]
    rfl
  clear hr hrb hA0 hB1 h8 hn hout
  go_enter Try.func33, Try.ntmps33
  go_wp2_with (go_at_call 30; refine K0.out.mono ?_; rintro e1 w1 ⟨rfl, F1, hr1⟩; have d4 := (HD4.out.frr F1 (by have := HRB.out; omega)).al (.cells #[.int .i64 8, .int .i64 0, .bool false, .slice none 0 0, .string ⟨#[]⟩, .slice none 0 0, .slice none 0 0] 64); have d5 : DBx (w1.alloc (.cells #[.int .i64 8, .int .i64 0, .bool false, .slice none 0 0, .string ⟨#[]⟩, .slice none 0 0, .slice none 0 0] 64)) w1.heap.size (.int .i64 8) (.int .i64 0) (.bool false) (.slice none 0 0) (.string ⟨#[]⟩) (.slice none 0 0) (.slice none 0 0) := heap_alloc_new w1 _; have hs1 : w.heap.size < w1.heap.size := (HD4.out.frr F1 (by have := HRB.out; omega)).lt; have hr2 := hr1.mono (up_alloc w1 (.cells #[.int .i64 8, .int .i64 0, .bool false, .slice none 0 0, .string ⟨#[]⟩, .slice none 0 0, .slice none 0 0] 64)); have b1 := hr2.k1; have zz1 := hr2.fz 1; have x10 := d5.k0; have HS1 : Hid (w.heap.size < w1.heap.size) := hs1; have HR1 := hide hr2; have HD5 := hide d5; have HG5 := hide d4; have HF1 := hide ((HF0.out.trans F1 (fun _ _ e => e)).alloc (.cells #[.int .i64 8, .int .i64 0, .bool false, .slice none 0 0, .string ⟨#[]⟩, .slice none 0 0, .slice none 0 0] 64)); obtain ⟨⟨x90, x91, x92, x93, x94, x95, x96⟩, ⟨f90, y90⟩, ⟨f91, y91⟩, ⟨f92, y92⟩, ⟨f93, y93⟩, ⟨f94, y94⟩, ⟨f95, y95⟩, ⟨f96, y96⟩, ⟨kr0, kr1, kr2, kr3, kr4, kr5, kr6⟩⟩ := DBx.copyF d5 d4; clear F1 hr1 hr2 d4 d5 hs1)
  refine bodyPost_ret (by simp [results, Try.results33, go_sem, kr0, kr1, kr2, kr3, kr4, kr5, kr6]; rfl) rfl ?_
  have eq : (p : Int) - 1 = ((p - 1 : Nat) : Int) := by omega
  have hs1 := HS1.out
  refine okL.mkyes HO.out rfl ?_ ⟨set7_fr HF1.out (Nat.le_refl _) _ _ _ _ _ _ _, ?_⟩
  · exact ⟨_, _, _, rfl, by decide, nilSl _, (fun i hi => by cases hi), nilRow _ _, nilRow _ _, .inl rfl, .inl rfl, .inl rfl⟩
  · rw [← eq]
    exact HR1.out.set7 HRB.out _ _ _ _ _ _ _

set_option maxRecDepth 20000 in
set_option maxHeartbeats 4000000 in
theorem ldat_9 {h : Nat} (w0 w : World) (rb p dp : Nat) (dep : Int) (l m : List Nat) (hr : RfS w0 w rb l false (p : Int)) (h8 : By8 l) (_hl : l.length ≤ 100000000) (hp : p ≤ 20000) (hp1 : 1 ≤ p) (hd : dp + 1 ≤ 100) (hdep : dep = 100 - (dp : Int)) (hn : rdNum l = some (9, m)) :
    Calls Try.prog 33 #[.pointer (some ⟨rb, 0, none⟩), .int .i64 dep] w fun e w' => okL w0 w rb w.heap.size (lrDat (h + 1) (dp + 1) l p) e w' := by
  obtain ⟨out, hout⟩ : ∃ o, o = lrDat (h + 1) (dp + 1) l p := ⟨_, rfl⟩
  rw [← hout]
  have hrb := hr.lt
  have hA0 := hr.mono (up_alloc w (.cells #[.int .i64 0, .int .i64 0, .bool false, .slice none 0 0, .string ⟨#[]⟩, .slice none 0 0, .slice none 0 0] 64))
  have x2 := hA0.k2
  have z2 := hA0.fz 2
  have hB1 := hA0.left ((p : Int) - 1)
  have x3 := hB1.k2
  have HD4 : Hid (DBx ((w.alloc (.cells #[.int .i64 0, .int .i64 0, .bool false, .slice none 0 0, .string ⟨#[]⟩, .slice none 0 0, .slice none 0 0] 64)).setCell ⟨rb, 2, none⟩ (.int .i64 ((p : Int) - 1))) w.heap.size (.int .i64 0) (.int .i64 0) (.bool false) (.slice none 0 0) (.string ⟨#[]⟩) (.slice none 0 0) (.slice none 0 0)) := (heap_setCell_other _ _ _ _ (show w.heap.size ≠ rb from by omega)).trans (heap_alloc_new w _)
  have HF0 : Hid (Fr (fun j => j = rb) w ((w.alloc (.cells #[.int .i64 0, .int .i64 0, .bool false, .slice none 0 0, .string ⟨#[]⟩, .slice none 0 0, .slice none 0 0] 64)).setCell ⟨rb, 2, none⟩ (.int .i64 ((p : Int) - 1)))) := ((Fr.refl (fun j => j = rb) w).alloc _).setCell (fun _ => rfl) _ _
  have HRB := hide hrb
  have g1 : ¬ ((p : Int) - 1 < 0) := by omega
  have g2 : ¬ (dep > 100) := by omega
  have K0 := hide ((lnum_any w0 _ rb l _ hB1 h8).mono (fun _ _ x => x.yes hn))
  have h8m := rdNum_by8 hn h8
  have HLE := hide (rdNum_len hn)
  have HO : out = match rdSgn m with | none => none | some (n, m') => some (((9 : Int), n, false, [], ⟨#[]⟩, [], []), m', p - 1) := by
    rw [hout]
    simp only [lrDat, hn]
    rw [if_neg (by omega)]
    rfl
  cases hs : rdSgn m with
  | none =>
    have hnm : rdNum m = none := by
      unfold rdSgn at hs
      split at hs
      · assumption
      · cases hs
    have K1 := hide (fun (W : World) (h' : RfS w0 W rb m false ((p : Int) - 1)) => lsgn_no w0 W rb m _ h' h8m hnm)
    rw [hs] at HO
    replace HO := hide HO
    clear hr hrb hA0 hB1 h8 hn hout hs h8m hnm
    go_enter Try.func33, Try.ntmps33
    go_wp2_with (first
      | (have hx := HR1; clear hx; go_at_call 32; refine (K1.out _ HR1.out).mono ?_; rintro e2 w2 ⟨s2, rfl, F2, l2, q2, hr2⟩; have e5 := HD5.out.frr F2 (by have := HS1.out; have := HRB.out; omega); have f51 := e5.fz 1; have y51 := e5.k1; have S5 := e5.s1 (.int .i64 s2); have e4 := (HG5.out.frr F2 (by have := HRB.out; omega)).oo (g := w1.heap.size) (i := 1) (x := .int .i64 s2) (by have := HS1.out; omega); obtain ⟨⟨x90, x91, x92, x93, x94, x95, x96⟩, ⟨f90, y90⟩, ⟨f91, y91⟩, ⟨f92, y92⟩, ⟨f93, y93⟩, ⟨f94, y94⟩, ⟨f95, y95⟩, ⟨f96, y96⟩, ⟨kr0, kr1, kr2, kr3, kr4, kr5, kr6⟩⟩ := DBx.copyF S5 e4; have HR2 := hide (hr2.setO (g := w1.heap.size) (i := 1) (u := .int .i64 s2) (by have := HS1.out; have := HRB.out; omega)); have HF2 := hide ((HF1.out.trans F2 (fun _ _ e => e)).setCell (g := w1.heap.size) (fun e => by have := HS1.out; have := HRB.out; omega) 1 (.int .i64 s2)); clear F2 hr2 e5 e4 S5)
      | (go_at_call 30; refine K0.out.mono ?_; rintro e1 w1 ⟨rfl, F1, hr1⟩; have d4 := (HD4.out.frr F1 (by have := HRB.out; omega)).al (.cells #[.int .i64 9, .int .i64 0, .bool false, .slice none 0 0, .string ⟨#[]⟩, .slice none 0 0, .slice none 0 0] 64); have d5 : DBx (w1.alloc (.cells #[.int .i64 9, .int .i64 0, .bool false, .slice none 0 0, .string ⟨#[]⟩, .slice none 0 0, .slice none 0 0] 64)) w1.heap.size (.int .i64 9) (.int .i64 0) (.bool false) (.slice none 0 0) (.string ⟨#[]⟩) (.slice none 0 0) (.slice none 0 0) := heap_alloc_new w1 _; have hs1 : w.heap.size < w1.heap.size := (HD4.out.frr F1 (by have := HRB.out; omega)).lt; have hr2 := hr1.mono (up_alloc w1 (.cells #[.int .i64 9, .int .i64 0, .bool false, .slice none 0 0, .string ⟨#[]⟩, .slice none 0 0, .slice none 0 0] 64)); have b1 := hr2.k1; have zz1 := hr2.fz 1; have x10 := d5.k0; have HS1 : Hid (w.heap.size < w1.heap.size) := hs1; have HR1 := hide hr2; have HD5 := hide d5; have HG5 := hide d4; have HF1 := hide ((HF0.out.trans F1 (fun _ _ e => e)).alloc (.cells #[.int .i64 9, .int .i64 0, .bool false, .slice none 0 0, .string ⟨#[]⟩, .slice none 0 0, .slice none 0 0] 64)); clear F1 hr1 hr2 d4 d5 hs1))
    refine bodyPost_ret (by simp [results, Try.results33, go_sem, kr0, kr1, kr2, kr3, kr4, kr5, kr6]; rfl) rfl ?_
    exact okL.mkno HO.out (LB.set7 HF2.out HR2.out HRB.out (Nat.le_refl _) _ _ _ _ _ _ _) rfl
  | some y =>
    obtain ⟨s, m2⟩ := y
    have K1 := hide (fun (W : World) (h' : RfS w0 W rb m false ((p : Int) - 1)) => lsgn_yes w0 W rb m m2 s _ h' h8m hs)
    have hrng := sgn_rng hs
    rw [hs] at HO
    replace HO := hide HO
    clear hr hrb hA0 hB1 h8 hn hout hs h8m
    go_enter Try.func33, Try.ntmps33
    go_wp2_with (first
      | (have hx := HR1; clear hx; go_at_call 32; refine (K1.out _ HR1.out).mono ?_; rintro e2 w2 ⟨rfl, F2, hr2⟩; have e5 := HD5.out.frr F2 (by have := HS1.out; have := HRB.out; omega); have f51 := e5.fz 1; have y51 := e5.k1; have S5 := e5.s1 (.int .i64 s); have e4 := (HG5.out.frr F2 (by have := HRB.out; omega)).oo (g := w1.heap.size) (i := 1) (x := .int .i64 s) (by have := HS1.out; omega); obtain ⟨⟨x90, x91, x92, x93, x94, x95, x96⟩, ⟨f90, y90⟩, ⟨f91, y91⟩, ⟨f92, y92⟩, ⟨f93, y93⟩, ⟨f94, y94⟩, ⟨f95, y95⟩, ⟨f96, y96⟩, ⟨kr0, kr1, kr2, kr3, kr4, kr5, kr6⟩⟩ := DBx.copyF S5 e4; have HR2 := hide (hr2.setO (g := w1.heap.size) (i := 1) (u := .int .i64 s) (by have := HS1.out; have := HRB.out; omega)); have HF2 := hide ((HF1.out.trans F2 (fun _ _ e => e)).setCell (g := w1.heap.size) (fun e => by have := HS1.out; have := HRB.out; omega) 1 (.int .i64 s)); clear F2 hr2 e5 e4 S5)
      | (go_at_call 30; refine K0.out.mono ?_; rintro e1 w1 ⟨rfl, F1, hr1⟩; have d4 := (HD4.out.frr F1 (by have := HRB.out; omega)).al (.cells #[.int .i64 9, .int .i64 0, .bool false, .slice none 0 0, .string ⟨#[]⟩, .slice none 0 0, .slice none 0 0] 64); have d5 : DBx (w1.alloc (.cells #[.int .i64 9, .int .i64 0, .bool false, .slice none 0 0, .string ⟨#[]⟩, .slice none 0 0, .slice none 0 0] 64)) w1.heap.size (.int .i64 9) (.int .i64 0) (.bool false) (.slice none 0 0) (.string ⟨#[]⟩) (.slice none 0 0) (.slice none 0 0) := heap_alloc_new w1 _; have hs1 : w.heap.size < w1.heap.size := (HD4.out.frr F1 (by have := HRB.out; omega)).lt; have hr2 := hr1.mono (up_alloc w1 (.cells #[.int .i64 9, .int .i64 0, .bool false, .slice none 0 0, .string ⟨#[]⟩, .slice none 0 0, .slice none 0 0] 64)); have b1 := hr2.k1; have zz1 := hr2.fz 1; have x10 := d5.k0; have HS1 : Hid (w.heap.size < w1.heap.size) := hs1; have HR1 := hide hr2; have HD5 := hide d5; have HG5 := hide d4; have HF1 := hide ((HF0.out.trans F1 (fun _ _ e => e)).alloc (.cells #[.int .i64 9, .int .i64 0, .bool false, .slice none 0 0, .string ⟨#[]⟩, .slice none 0 0, .slice none 0 0] 64)); clear F1 hr1 hr2 d4 d5 hs1))
    refine bodyPost_ret (by simp [results, Try.results33, go_sem, kr0, kr1, kr2, kr3, kr4, kr5, kr6]; rfl) rfl ?_
    have eq : (p : Int) - 1 = ((p - 1 : Nat) : Int) := by omega
    refine okL.mkyes HO.out rfl ?_ ⟨set7_fr HF2.out (Nat.le_refl _) _ _ _ _ _ _ _, ?_⟩
    · exact ⟨_, _, _, rfl, hrng, nilSl _, (fun i hi => by cases hi), nilRow _ _, nilRow _ _, .inl rfl, .inl rfl, .inl rfl⟩
    · rw [← eq]
      exact HR2.out.set7 HRB.out _ _ _ _ _ _ _

set_option maxRecDepth 20000 in
set_option maxHeartbeats 4000000 in
theorem ldat_o {h : Nat} (w0 w : World) (rb p dp : Nat) (dep : Int) (l m : List Nat) (hr : RfS w0 w rb l false (p : Int)) (h8 : By8 l) (_hl : l.length ≤ 100000000) (hp : p ≤ 20000) (hp1 : 1 ≤ p) (hd : dp + 1 ≤ 100) (hdep : dep = 100 - (dp : Int)) (k : Nat) (hn : rdNum l = some (k, m)) (hk : k = 0 ∨ 9 < k) :
    Calls Try.prog 33 #[.pointer (some ⟨rb, 0, none⟩), .int .i64 dep] w fun e w' => okL w0 w rb w.heap.size (lrDat (h + 1) (dp + 1) l p) e w' := by
  obtain ⟨out, hout⟩ : ∃ o, o = lrDat (h + 1) (dp + 1) l p := ⟨_, rfl⟩
  rw [← hout]
  have hrb := hr.lt
  have hA0 := hr.mono (up_alloc w (.cells #[.int .i64 0, .int .i64 0, .bool false, .slice none 0 0, .string ⟨#[]⟩, .slice none 0 0, .slice none 0 0] 64))
  have x2 := hA0.k2
  have z2 := hA0.fz 2
  have hB1 := hA0.left ((p : Int) - 1)
  have x3 := hB1.k2
  have HD4 : Hid (DBx ((w.alloc (.cells #[.int .i64 0, .int .i64 0, .bool false, .slice none 0 0, .string ⟨#[]⟩, .slice none 0 0, .slice none 0 0] 64)).setCell ⟨rb, 2, none⟩ (.int .i64 ((p : Int) - 1))) w.heap.size (.int .i64 0) (.int .i64 0) (.bool false) (.slice none 0 0) (.string ⟨#[]⟩) (.slice none 0 0) (.slice none 0 0)) := (heap_setCell_other _ _ _ _ (show w.heap.size ≠ rb from by omega)).trans (heap_alloc_new w _)
  have HF0 : Hid (Fr (fun j => j = rb) w ((w.alloc (.cells #[.int .i64 0, .int .i64 0, .bool false, .slice none 0 0, .string ⟨#[]⟩, .slice none 0 0, .slice none 0 0] 64)).setCell ⟨rb, 2, none⟩ (.int .i64 ((p : Int) - 1)))) := ((Fr.refl (fun j => j = rb) w).alloc _).setCell (fun _ => rfl) _ _
  have HRB := hide hrb
  have g1 : ¬ ((p : Int) - 1 < 0) := by omega
  have g2 : ¬ (dep > 100) := by omega
  have K0 := hide ((lnum_any w0 _ rb l _ hB1 h8).mono (fun _ _ x => x.yes hn))
  have hkl := rdNum_le hn
  have gk1 : ((k : Int) == 1) = false := by rw [beq_eq_false_iff_ne]; omega
  have gk2 : ((k : Int) == 2) = false := by rw [beq_eq_false_iff_ne]; omega
  have gk3 : ((k : Int) == 3) = false := by rw [beq_eq_false_iff_ne]; omega
  have gk9 : ((k : Int) == 9) = false := by rw [beq_eq_false_iff_ne]; omega
  have gk4 : ((k : Int) == 4) = false := by rw [beq_eq_false_iff_ne]; omega
  have gk5 : ((k : Int) == 5) = false := by rw [beq_eq_false_iff_ne]; omega
  have gk8 : ((k : Int) == 8) = false := by rw [beq_eq_false_iff_ne]; omega
  have gk6 : ((k : Int) == 6) = false := by rw [beq_eq_false_iff_ne]; omega
  have gk7 : ((k : Int) == 7) = false := by rw [beq_eq_false_iff_ne]; omega
  have HO : Hid (out = none) := by
    unfold Hid
    rw [hout]
    simp only [lrDat, hn]
    rw [if_neg (by omega)]
    unfold lrFld
    rw [if_neg (by omega), if_neg (by omega), if_neg (by omega), if_neg (by omega), if_neg (by omega), if_neg (by omega), if_neg (by omega)]
  clear hr hrb hA0 hB1 h8 hn hout
  go_enter Try.func33, Try.ntmps33
  go_wp2_with (go_at_call 30; refine K0.out.mono ?_; rintro e1 w1 ⟨rfl, F1, hr1⟩; have d4 := (HD4.out.frr F1 (by have := HRB.out; omega)).al (.cells #[.int .i64 ((k : Int)), .int .i64 0, .bool false, .slice none 0 0, .string ⟨#[]⟩, .slice none 0 0, .slice none 0 0] 64); have d5 : DBx (w1.alloc (.cells #[.int .i64 ((k : Int)), .int .i64 0, .bool false, .slice none 0 0, .string ⟨#[]⟩, .slice none 0 0, .slice none 0 0] 64)) w1.heap.size (.int .i64 ((k : Int))) (.int .i64 0) (.bool false) (.slice none 0 0) (.string ⟨#[]⟩) (.slice none 0 0) (.slice none 0 0) := heap_alloc_new w1 _; have hs1 : w.heap.size < w1.heap.size := (HD4.out.frr F1 (by have := HRB.out; omega)).lt; have hr2 := hr1.mono (up_alloc w1 (.cells #[.int .i64 ((k : Int)), .int .i64 0, .bool false, .slice none 0 0, .string ⟨#[]⟩, .slice none 0 0, .slice none 0 0] 64)); have b1 := hr2.k1; have zz1 := hr2.fz 1; have x10 := d5.k0; have HS1 : Hid (w.heap.size < w1.heap.size) := hs1; have HR1 := hide hr2; have HD5 := hide d5; have HG5 := hide d4; have HF1 := hide ((HF0.out.trans F1 (fun _ _ e => e)).alloc (.cells #[.int .i64 ((k : Int)), .int .i64 0, .bool false, .slice none 0 0, .string ⟨#[]⟩, .slice none 0 0, .slice none 0 0] 64)); have d5b := d5.oo (g := rb) (i := 1) (x := .bool true) (by have := HRB.out; omega); have d4b := d4.oo (g := rb) (i := 1) (x := .bool true) (by have := HRB.out; omega); obtain ⟨⟨x90, x91, x92, x93, x94, x95, x96⟩, ⟨f90, y90⟩, ⟨f91, y91⟩, ⟨f92, y92⟩, ⟨f93, y93⟩, ⟨f94, y94⟩, ⟨f95, y95⟩, ⟨f96, y96⟩, ⟨kr0, kr1, kr2, kr3, kr4, kr5, kr6⟩⟩ := DBx.copyF d5b d4b; have HR2 := hide (hr2.bad true); have HF2 := hide (HF1.out.setCell (g := rb) (fun _ => rfl) 1 (.bool true)); clear d5b d4b; clear F1 hr1 hr2 d4 d5 hs1)
  refine bodyPost_ret (by simp [results, Try.results33, go_sem, kr0, kr1, kr2, kr3, kr4, kr5, kr6]; rfl) rfl ?_
  exact okL.mkno HO.out (LB.set7 HF2.out HR2.out HRB.out (Nat.le_refl _) _ _ _ _ _ _ _) rfl

theorem ldat_zero {h : Nat} {out : Option (Tr h × List Nat × Nat)} (ho : out = none) (w0 w : World) (rb p : Nat) (dep : Int) (l : List Nat) (hr : RfS w0 w rb l false (p : Int)) (hp : p ≤ 20000) (hx : p = 0 ∨ 100 < dep) (hd0 : 0 ≤ dep) (hd : dep ≤ 101) :
    Calls Try.prog 33 #[.pointer (some ⟨rb, 0, none⟩), .int .i64 dep] w fun e w' => okL w0 w rb w.heap.size out e w' := by
  subst ho
  exact ldat_over w0 w rb p dep l hr hp hx hd0 hd

theorem ldat_of {h : Nat} (hD : LDOK h) : LDOK (h + 1) := by
  intro w0 w rb p dp dep l hr h8 hl hp hd hh hdep
  match dp, hd, hh, hdep with
  | 0, hd, hh, hdep => exact ldat_zero rfl w0 w rb p dep l hr hp (.inr (by omega)) (by omega) (by omega)
  | d + 1, hd, hh, hdep =>
    by_cases hp0 : p = 0
    · subst hp0
      exact ldat_zero (by simp [lrDat]) w0 w rb 0 dep l hr hp (.inl rfl) (by omega) (by omega)
    have hp1 : 1 ≤ p := by omega
    have hdd : dep = 100 - (d : Int) := by omega
    cases hn : rdNum l with
    | none => exact ldat_none w0 w rb p d dep l [] hr h8 hl hp hp1 hd hdd hn
    | some x =>
      obtain ⟨k, m⟩ := x
      have hk : k = 0 ∨ k = 1 ∨ k = 2 ∨ k = 3 ∨ k = 4 ∨ k = 5 ∨ k = 6 ∨ k = 7 ∨ k = 8 ∨ k = 9 ∨ 9 < k := by omega
      rcases hk with rfl | rfl | rfl | rfl | rfl | rfl | rfl | rfl | rfl | rfl | hk
      · exact ldat_o w0 w rb p d dep l m hr h8 hl hp hp1 hd hdd 0 hn (.inl rfl)
      · cases hm : rdFlag m with
        | none => exact ldat_1a w0 w rb p d dep l m hr h8 hl hp hp1 hd hdd hn hm
        | some y =>
          obtain ⟨b, m1⟩ := y
          cases hq : rdNum m1 with
          | none => exact ldat_1b w0 w rb p d dep l m hr h8 hl hp hp1 hd hdd hn b m1 hm hq
          | some z =>
            obtain ⟨n, m2⟩ := z
            exact ldat_1c w0 w rb p d dep l m hr h8 hl hp hp1 hd hdd hn b m1 m2 n hm hq
      · exact ldat_2 w0 w rb p d dep l m hr h8 hl hp hp1 hd hdd hn
      · exact ldat_3 w0 w rb p d dep l m hr h8 hl hp hp1 hd hdd hn
      · exact ldat_4 w0 w rb p d dep l m hr h8 hl hp hp1 hd hdd hn
      · exact ldat_5 w0 w rb p d dep l m hr h8 hl hp hp1 hd hdd hn
      · cases hq : rdNum m with
        | none => exact ldat_6n w0 w rb p d dep l m hr h8 hl hp hp1 hd hdd hn hq
        | some z =>
          obtain ⟨n, m2⟩ := z
          exact ldat_6 hD w0 w rb p d dep l m hr h8 hl hp hp1 hd hdd (by omega) hn m2 n hq
      · cases hq : rdNum m with
        | none => exact ldat_7n w0 w rb p d dep l m hr h8 hl hp hp1 hd hdd hn hq
        | some z =>
          obtain ⟨n, m2⟩ := z
          exact ldat_7 hD w0 w rb p d dep l m hr h8 hl hp hp1 hd hdd (by omega) hn m2 n hq
      · exact ldat_8 w0 w rb p d dep l m hr h8 hl hp hp1 hd hdd hn
      · exact ldat_9 w0 w rb p d dep l m hr h8 hl hp hp1 hd hdd hn
      · exact ldat_o w0 w rb p d dep l m hr h8 hl hp hp1 hd hdd k hn (.inr hk)

theorem ldat_all : ∀ h, LDOK h
  | 0 => fun w0 w rb p dp dep l hr h8 hl hp hd hh hdep => ldat_zero (by cases dp <;> rfl) w0 w rb p dep l hr hp (.inr (by omega)) (by omega) (by omega)
  | h + 1 => ldat_of (ldat_all h)

theorem lread_any {h : Nat} (hh : 100 ≤ h) (w : World) (v : Value) (l : List Nat) (hb : BL w v l) (h8 : By8 l) (hl : l.length ≤ 100000000) :
    Calls Try.prog 15 #[v] w fun e w' => REnd w (lrPrg h l 20000) e w' := by
  by_cases h4 : l.take 4 = [84, 65, 78, 68]
  · exact lread_main (ldat_all h) hh w v l hb h8 hl h4 _ rfl (fun W ps u ho hr => rright_of (right_all h) W ps u hr (by rw [← lrPrg_back h8 ho]; omega))
  · refine (lread_head w v l hb h4).mono fun e w' he => ?_
    obtain ⟨rfl, F⟩ := he
    have e0 : lrPrg h l 20000 = none := if_neg h4
    rw [e0]
    exact ⟨F, rfl⟩

end Go.Proofs.Ytilcigjhogcjkaa
