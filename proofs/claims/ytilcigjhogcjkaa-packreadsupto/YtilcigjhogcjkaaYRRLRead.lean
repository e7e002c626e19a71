/-
  What is proved here: the document's reader of a program (tandemref10.Read), walked.
-/
import Derived.Test.YtilcigjhogcjkaaPZ12
import Derived.Test.YtilcigjhogcjkaaYRRegA
import Derived.Deep.CutRange
import Derived.Great.BuildSlice
import Derived.Deep.CutBlock
namespace Go.Proofs.Ytilcigjhogcjkaa
open Go Go.RowKit
theorem own_set2 {w : World} {B b i : Nat} {u : Value} {e : TypeId} {size : Nat} {v : Value} {n : Nat} {xs : List Value} (h : w.ownsRow B e size v n xs) (hb : v.ownBlock ≠ some b) : (w.setCell ⟨b, i, none⟩ u).ownsRow B e size v n xs := by
  refine ⟨h.1, ?_⟩
  rcases h.2 with e1 | ⟨g, cap, cur, e1, h1, h2, h3⟩
  · exact .inl e1
  · refine .inr ⟨g, cap, cur, e1, h1, (heap_setCell_other _ _ _ _ (by show g ≠ b; intro e2; rw [e1] at hb; exact hb (by rw [← e2]; rfl))).trans h2, h3⟩

/-- What comes of the document's Read. -/
def REnd {h : Nat} (w : World) (out : Option (List (PC h))) (e : Ending) (w' : World) : Prop := Fr (fun _ => False) w w' ∧ match out with
  | none => e = .returned (.tuple #[.slice none 0 0, .int .i64 30])
  | some ps => if mayW ps = true then (∃ ao cap, e = .returned (.tuple #[.slice ao ps.length cap, .int .i64 0]) ∧ RowD w' (PCell w') (.slice ao ps.length cap) ps) else e = .returned (.tuple #[.slice none 0 0, .int .i64 30])

set_option maxRecDepth 100000 in
set_option maxHeartbeats 20000000 in
theorem lread_main {h : Nat} (hD : LDOK h) (hh : 100 ≤ h) (w : World) (v : Value) (l : List Nat) (hb : BL w v l) (h8 : By8 l) (hl : l.length ≤ 100000000) (h4 : l.take 4 = [84, 65, 78, 68]) (out : Option (List (PC h))) (hout : out = lrPrg h l 20000) (hRi : ∀ (W : World) (ps : List (PC h)) (u : Value), out = some ps → RowD W (PCell W) u ps → Calls Try.prog 21 #[u] W fun e w' => e = .returned (.bool (mayW ps)) ∧ Fr (fun _ => False) W w') :
    Calls Try.prog 15 #[v] w fun e w' => REnd w out e w' := by
  have hl4 : 4 ≤ l.length := by
    have := congrArg List.length h4
    simp at this
    omega
  obtain ⟨aov, capv, rfl, -⟩ := id hb
  obtain ⟨iI, hiI, zI0, zI1, zI2⟩ := info_parts infoIn
  obtain ⟨iD, hiD, zD0, zD1, zD2⟩ := info_parts infoD
  obtain ⟨iS, hiS, zS0, zS1, zS2⟩ := info_parts infoSt
  obtain ⟨iP, hiP, zP0, zP1, zP2⟩ := info_parts infoPr
  have hB0 : RfS w (w.alloc (.cells #[.slice aov l.length capv, .bool false, .int .i64 20000] 71)) w.heap.size l false 20000 := by
    exact ⟨up_alloc w _, Nat.le_refl _, _, hb, heap_alloc_new w _⟩
  have K0 := hide (ltake_yes w _ w.heap.size 4 l _ hB0 hl4)
  have HFA : Hid (Fr (fun _ => False) w (w.alloc (.cells #[.slice aov l.length capv, .bool false, .int .i64 20000] 71))) := hide ((Fr.refl _ w).alloc _)
  have H4 := hide h4
  have HS4 : Hid (By8 (l.drop 4) ∧ (l.drop 4).length ≤ 100000000) := ⟨h8.suf (List.drop_suffix _ _), by rw [List.length_drop]; omega⟩
  obtain ⟨X0, e0⟩ : ∃ X, X = og rdNum (some (l.drop 4, 20000)) := ⟨_, rfl⟩
  have K00 := fun (W : World) (h' : RfO w W w.heap.size (some (l.drop 4, 20000))) => lnumO w W w.heap.size _ h'
  simp only [← e0] at K00
  replace K00 := hide K00
  have HE0 := hide e0
  have HOUT := hide hout
  have HRI := hide hRi
  have HDD := hide hD
  clear hB0 hb h8 h4 e0 hout hRi hD
  go_enter Try.func15, Try.ntmps15
  go_upto_block 0 with (first
    | (have hx := HR0; clear hx; go_at_call 30; refine (K00.out _ HR0.out).mono ?_; rintro ez w1 ⟨n, rfl, hnl, hv0, Fz, hrz⟩; have HV0 := hide hv0; have HRz := hide hrz; have HFz := hide (HF0.out.trans Fz (fun _ _ e => e)); clear Fz hrz hv0)
    | (go_at_call 29; refine K0.out.mono ?_; rintro e0 w0 ⟨v0, rfl, hb0, hr0, F0⟩; have c40 := take4 hb0 H4.out hr0.1; obtain ⟨g4, o4, cap4, rfl, y40, y41, y42, y43⟩ := c40; have b4 := hr0.k1; have HR0 := hide (rfo_start hr0 HS4.out.1 HS4.out.2); have HF0 := hide F0; clear hb0 hr0 F0))
  have HNL : Hid (n ≤ 4398046511104) := hnl
  obtain ⟨mo, emo⟩ : ∃ mo, mo = ogP (rdRowP (lrPro h) n) (ost X0) := ⟨_, rfl⟩
  have HMO := hide emo
  have HFIN : Hid (out = finP mo) := HOUT.out.trans (prg_chain H4.out HE0.out HV0.out emo)
  clear emo hnl
  go_wp2_with fail
  go_loopw [6, 8, 9, 10, 11, 12, 13, 14] (fun a6 a8 _ _ _ _ _ _ wr => ∃ (i : Nat) (I : List (PC h)) (xs : List Value) (ao : Option Addr) (cap : Nat) (o : Option (List Nat × Nat)), i ≤ n ∧ a6 = .slice ao i cap ∧ a8 = .int .i64 (i : Int) ∧ Fr (fun j => j = w.heap.size) (w.alloc (.cells #[.slice aov l.length capv, .bool false, .int .i64 20000] 71)) wr ∧ RfO w wr w.heap.size o ∧ wr.ownsRow (w.heap.size + 1) 48 7 (.slice ao i cap) i xs ∧ (∀ x, o = some x → n ≤ 1099511627776 ∧ I.length = i ∧ LPr (w.heap.size + 1) I (.slice ao i cap) xs wr) ∧ mo = moreP I (ogP (rdRowP (lrPro h) (n - i)) o)) (fun _ a8 _ _ _ _ _ _ _ => n - (intOf a8).toNat)
  case atStart => exact ⟨0, [], [], none, 0, ost X0, Nat.zero_le _, rfl, rfl, HFz.out, HRz.out, World.ownsRow_nil _ _ _ _, fun x hx => ⟨onum_le (by rw [← HE0.out]; exact HV0.out) (by rw [← HE0.out]; exact hx), rfl, LPr.nil _ _ _⟩, by rw [moreP_nil, Nat.sub_zero]; exact HMO.out⟩
  case round =>
    obtain ⟨wo, rfl⟩ : ∃ x, x = wr := ⟨wr, rfl⟩
    obtain ⟨i, I, xs, ao, cap, o, hi, rfl, rfl, hF, hR, hO, hg, hX⟩ := hrel
    clear HR0 HF0 HRz HFz HV0
    have HRB : Hid (w.heap.size < wo.heap.size) := hR.lt
    by_cases hil : i < n
    · have hIn : (i : Int) < (n : Int) := by omega
      cases o with
      | none => 
        have b9 : wo.cell? ⟨w.heap.size, 1, none⟩ = some (.bool true) := hR.k1
        have hO2 : out = none := by rw [HFIN.out, hX]; rfl
        have HO2 := hide hO2
        have HFF : Hid (Fr (fun _ => False) w wo) := HFA.out.trans hF (fun x hx e => absurd hx (by rw [show x = w.heap.size from e]; exact Nat.lt_irrefl _))
        clear hF hR hO hg hX hO2
        go_wp2_with fail
        go_returns
        exact ⟨HFF.out, by rw [HO2.out]; rfl⟩
      | some x =>
        obtain ⟨mm, q⟩ := x
        obtain ⟨hnb, hIl, hL⟩ := hg _ rfl
        have b9 : wo.cell? ⟨w.heap.size, 1, none⟩ = some (.bool false) := hR.k1
        rw [show n - i = (n - (i + 1)) + 1 by omega] at hX
        obtain ⟨X1, e1⟩ : ∃ X, X = og rdTxt (some (mm, q)) := ⟨_, rfl⟩
        obtain ⟨N1, en⟩ : ∃ X, X = og rdNum (some (mm, q)) := ⟨_, rfl⟩
        obtain ⟨X2, e2⟩ : ∃ X, X = og rdNum (ost X1) := ⟨_, rfl⟩
        obtain ⟨X3, e3⟩ : ∃ X, X = og rdFlag (ost X2) := ⟨_, rfl⟩
        obtain ⟨X4, e4⟩ : ∃ X, X = og rdNum (ost X3) := ⟨_, rfl⟩
        obtain ⟨X5, e5⟩ : ∃ X, X = og rdNum (ost X4) := ⟨_, rfl⟩
        have K1 := lnumO w wo w.heap.size _ hR
        rw [← en] at K1
        have K1t : ∀ (W : World) (n' : Nat), RfO w W w.heap.size (ost N1) → ov N1 n' → Calls Try.prog 29 #[.pointer (some ⟨w.heap.size, 0, none⟩), .int .i64 (n' : Int)] W fun e w' => ∃ (v : Value) (t : ByteArray), e = .returned v ∧ (convert 23 9 v).run Try.prog w' = .ok (.string t) w' ∧ ov X1 t ∧ Fr (fun j => j = w.heap.size) W w' ∧ RfO w w' w.heap.size (ost X1) := fun W n' h' hv => by
          have hh' := ltakeO w W w.heap.size n' _ h'
          have et : otake n' (ost N1) = X1 := by rw [en, e1]; exact otake_txt (by rw [← en]; exact hv)
          rw [et] at hh'
          exact hh'
        have K2 := fun (W : World) (h' : RfO w W w.heap.size (ost X1)) => lnumO w W w.heap.size _ h'
        simp only [← e2] at K2
        have K3 := fun (W : World) (h' : RfO w W w.heap.size (ost X2)) => lbitO w W w.heap.size _ h'
        simp only [← e3] at K3
        have K4 := fun (W : World) (h' : RfO w W w.heap.size (ost X3)) => lnumO w W w.heap.size _ h'
        simp only [← e4] at K4
        have K5 := fun (W : World) (h' : RfO w W w.heap.size (ost X4)) => lnumO w W w.heap.size _ h'
        simp only [← e5] at K5
        replace K1 := hide K1
        replace K1t := hide K1t
        replace K2 := hide K2
        replace K3 := hide K3
        replace K4 := hide K4
        replace K5 := hide K5
        have HE := hide (And.intro e1 (And.intro e2 (And.intro e3 (And.intro e4 e5))))
        have HW0 : Hid (Fr (fun j => j = w.heap.size) (w.alloc (.cells #[.slice aov l.length capv, .bool false, .int .i64 20000] 71)) wo ∧ wo.ownsRow (w.heap.size + 1) 48 7 (.slice ao i cap) i xs ∧ I.length = i ∧ LPr (w.heap.size + 1) I (.slice ao i cap) xs wo ∧ mo = moreP I (ogP (rdRowP (lrPro h) (n - (i + 1) + 1)) (some (mm, q)))) := ⟨hF, hO, hIl, hL, hX⟩
        clear hF hR hO hg hX hIl hL e1 e2 e3 e4 e5 en
        go_upto_block 2 with (first
          | (have hx := HR5; clear hx; go_at_call 30; refine (K5.out _ HR5.out).mono ?_; rintro e6 w6 ⟨n5, rfl, hm6, hv6, F6, hr6⟩; have HP6 := hide (HP5.out.frr F6 (by have := HRB.out; have := HSP.out; omega)); have HR6 := hide hr6; have HF6 := hide (HF5.out.trans F6 (fun _ _ e => e)); have HV6 := hide hv6; clear F6 hr6 hv6)
          | (have hx := HR4; clear hx; go_at_call 30; refine (K4.out _ HR4.out).mono ?_; rintro e5 w5 ⟨m5, rfl, hm5, hv5, F5, hr5⟩; have q5 := HP4.out.frr F5 (by have := HRB.out; have := HSP.out; omega); have f5 := q5.fz 2; have y5 := q5.k2; have HP5 := hide (q5.s2 (.int .i64 (m5 : Int))); have HR5 := hide (hr5.setO (g := wb.heap.size) (i := 2) (u := .int .i64 (m5 : Int)) (by have := HRB.out; have := HSP.out; omega)); have HF5 := hide ((HF4.out.trans F5 (fun _ _ e => e)).setCell (g := wb.heap.size) (fun e => by have := HRB.out; have := HSP.out; omega) 2 (.int .i64 (m5 : Int))); have HV5 := hide hv5; clear F5 hr5 hv5 q5)
          | (have hx := HR3; clear hx; go_at_call 31; refine (K3.out _ HR3.out).mono ?_; rintro e4 w4 ⟨b4, rfl, hv4, F4, hr4⟩; have q4 := HP3.out.frr F4 (by have := HRB.out; have := HSP.out; omega); have f4 := q4.fz 3; have y4 := q4.k3; have HP4 := hide (q4.s3 (.bool b4)); have HR4 := hide (hr4.setO (g := wb.heap.size) (i := 3) (u := .bool b4) (by have := HRB.out; have := HSP.out; omega)); have HF4 := hide ((HF3.out.trans F4 (fun _ _ e => e)).setCell (g := wb.heap.size) (fun e => by have := HRB.out; have := HSP.out; omega) 3 (.bool b4)); have HV4 := hide hv4; clear F4 hr4 hv4 q4)
          | (have hx := HR2; clear hx; go_at_call 30; refine (K2.out _ HR2.out).mono ?_; rintro e3 w3 ⟨m3, rfl, hm3, hv3, F3, hr3⟩; have q3 := HP2.out.frr F3 (by have := HRB.out; have := HSP.out; omega); have f3 := q3.fz 1; have y3 := q3.k1; have HP3 := hide (q3.s1 (.int .i64 (m3 : Int))); have HR3 := hide (hr3.setO (g := wb.heap.size) (i := 1) (u := .int .i64 (m3 : Int)) (by have := HRB.out; have := HSP.out; omega)); have HF3 := hide ((HF2.out.trans F3 (fun _ _ e => e)).setCell (g := wb.heap.size) (fun e => by have := HRB.out; have := HSP.out; omega) 1 (.int .i64 (m3 : Int))); have HV3 := hide hv3; clear F3 hr3 hv3 q3)
          | (have hx := HR1; clear hx; go_at_call 29; refine (K1t.out _ _ HR1.out HV1.out).mono ?_; rintro e2 wb ⟨v2, t2, rfl, kc2, hv2, F2, hr2⟩; have q2 : PBx (wb.alloc (.cells #[.string t2, .int .i64 0, .int .i64 0, .bool false, .slice none 0 0, .slice none 0 0, .slice none 0 0] 48)) wb.heap.size (.string t2) (.int .i64 0) (.int .i64 0) (.bool false) (.slice none 0 0) (.slice none 0 0) (.slice none 0 0) := heap_alloc_new wb _; have HP2 := hide q2; have hr2b := hr2.mono (up_alloc wb (.cells #[.string t2, .int .i64 0, .int .i64 0, .bool false, .slice none 0 0, .slice none 0 0, .slice none 0 0] 48)); have HR2 := hide hr2b; have HSP : Hid (wo.heap.size ≤ wb.heap.size) := (HF1.out.trans F2 (fun _ _ e => e)).size; have HF2 := hide ((HF1.out.trans F2 (fun _ _ e => e)).alloc (.cells #[.string t2, .int .i64 0, .int .i64 0, .bool false, .slice none 0 0, .slice none 0 0, .slice none 0 0] 48)); have HV2 := hide hv2; clear F2 hr2 hr2b hv2 q2)
          | (go_at_call 30; refine K1.out.mono ?_; rintro e1 wa ⟨m1, rfl, hm1, hv1, F1, hr1⟩; have HR1 := hide hr1; have HV1 := hide hv1; have HF1 := hide F1; clear F1 hr1 hv1))
        have HE6 : Hid (∃ X6, X6 = og (rdRow rdIns n5) (ost X5)) := ⟨_, rfl⟩
        obtain ⟨X6, e6⟩ := HE6.out
        have HX6 := hide e6
        have HN5 : Hid (n5 ≤ 4398046511104) := hm6
        clear e6 hm6
        go_cut [11, 12] from 50 to 154 (fun _ _ wc => ∃ (ao : Option Addr) (cap j : Nat), Hid (Fr (fun j => j = w.heap.size) wo wc) ∧ Hid (PBx wc wb.heap.size (.string t2) (.int .i64 (m3 : Int)) (.int .i64 (m5 : Int)) (.bool b4) (.slice ao j cap) (.slice none 0 0) (.slice none 0 0)) ∧ Hid (RfO w wc w.heap.size (ost X6)) ∧ Hid (∀ xs m q, X6 = some (xs, m, q) → xs.length = j ∧ CodeL wc ao cap xs ∧ AQ (fun b => wb.heap.size + 1 ≤ b) ao xs.length))
        case first =>
          go_wp2_with fail
          go_loopw [11, 12] (fun a11 _ wr => ∃ (j : Nat) (xs : List (Int × Int × Int)) (ys : List Value) (ao : Option Addr) (cap : Nat) (o : Option (List Nat × Nat)), j ≤ n5 ∧ a11 = .int .i64 (j : Int) ∧ Fr (fun j => j = w.heap.size) wo wr ∧ PBx wr wb.heap.size (.string t2) (.int .i64 (m3 : Int)) (.int .i64 (m5 : Int)) (.bool b4) (.slice ao j cap) (.slice none 0 0) (.slice none 0 0) ∧ RfO w wr w.heap.size o ∧ wr.ownsRow (wb.heap.size + 1) 50 3 (.slice ao j cap) j ys ∧ (∀ x, o = some x → xs.length = j ∧ ys = cI xs) ∧ X6 = moreP xs (og (rdRow rdIns (n5 - j)) o)) (fun a11 _ _ => n5 - (intOf a11).toNat)
          case atStart => exact ⟨0, [], [], none, 0, ost X5, Nat.zero_le _, rfl, HF6.out, HP6.out, HR6.out, World.ownsRow_nil _ _ _ _, fun _ _ => ⟨rfl, rfl⟩, by rw [moreP_nil, Nat.sub_zero]; exact HX6.out⟩
          case round =>
            obtain ⟨j, xs, ys, ao, cap, o, hj, rfl, hF, hP, hR, hO, hg, hX⟩ := hrel
            clear HR1 HR2 HR3 HR4 HR5 HR6 HP2 HP3 HP4 HP5 HP6 HF1 HF2 HF3 HF4 HF5 HF6
            by_cases hjl : j < n5
            · have hjI : (j : Int) < (n5 : Int) := by omega
              have hjb : j < 4398046511104 := by have := HN5.out; omega
              cases o with
              | none =>
                have b9 : wr.cell? ⟨w.heap.size, 1, none⟩ = some (.bool true) := hR.k1
                have hX0 : X6 = none := hX.trans rfl
                have HC := hide (show _ ∧ _ from ⟨hF, hP⟩)
                have HC2 : Hid (RfO w wr w.heap.size (ost X6)) := by unfold Hid; rw [hX0]; exact hR
                have HC3 : Hid (X6 = none) := hX0
                clear hF hP hR hO hg hX hX0
                go_wp2_with fail
                go_meet
                exact ⟨ao, cap, j, hide HC.out.1, hide HC.out.2, HC2, hide (fun xs m q e => by rw [HC3.out] at e; cases e)⟩
              | some x =>
                obtain ⟨mm2, q2⟩ := x
                obtain ⟨hxl, hys⟩ := hg _ rfl
                have b9 : wr.cell? ⟨w.heap.size, 1, none⟩ = some (.bool false) := hR.k1
                rw [show n5 - j = (n5 - (j + 1)) + 1 by omega] at hX
                obtain ⟨Y1, ey1⟩ : ∃ Y, Y = og rdNum (some (mm2, q2)) := ⟨_, rfl⟩
                obtain ⟨Y2, ey2⟩ : ∃ Y, Y = og rdSgn (ost Y1) := ⟨_, rfl⟩
                obtain ⟨Y3, ey3⟩ : ∃ Y, Y = og rdSgn (ost Y2) := ⟨_, rfl⟩
                have L1 := lnumO w wr w.heap.size _ hR
                rw [← ey1] at L1
                have L2 := fun (W : World) (h' : RfO w W w.heap.size (ost Y1)) => lsgnO w W w.heap.size _ h'
                simp only [← ey2] at L2
                have L3 := fun (W : World) (h' : RfO w W w.heap.size (ost Y2)) => lsgnO w W w.heap.size _ h'
                simp only [← ey3] at L3
                have HNX : Hid (∀ (k : Nat) (a b : Int), ov Y1 k → ov Y2 a → ov Y3 b → X6 = moreP (xs ++ [((k : Int), a, b)]) (og (rdRow rdIns (n5 - (j + 1))) (ost Y3))) := fun k a b v1 v2 v3 => by
                  have := ins_chain (o := some (mm2, q2)) (k := k) (a := a) (b := b) (by rw [← ey1]; exact v1) (by rw [← ey1, ← ey2]; exact v2) (by rw [← ey1, ← ey2, ← ey3]; exact v3)
                  rw [hX, row_step this.1, this.2, ← ey1, ← ey2, ← ey3]
                replace L1 := hide L1
                replace L2 := hide L2
                replace L3 := hide L3
                have HXL := hide hxl
                have HYS := hide hys
                have HF := hide hF
                have HP := hide hP
                have HOW := hide hO
                have HPS : Hid (wb.heap.size + 1 ≤ wr.heap.size) := hP.lt
                have HJL := hide hjl
                clear hF hP hR hO hg hX ey1 ey2 ey3 hxl hys
                go_wp2_with (first
                  | (have hx := HI3; clear hx; at_builtin; refine wpList_append_lies _ rfl _ _ 44 rfl (wb.heap.size + 1) 50 iI _ 3 24 Try.underlying44 hiI zI0 zI1 zI2 rfl (by decide) _ j ys rfl (HO3.out.alloc _) ⟨wf.heap.size, 0, none⟩ 1 1 [.int .i64 (k1 : Int), .int .i64 a2, .int .i64 a3] rfl rfl (hcells3s wf _ _ _ _ _ _ _) (by intro u hu; simp at hu; rcases hu with rfl | rfl | rfl <;> rfl) (by decide) (by have := HN5.out; unfold maxLen; omega) (by have := HN5.out; omega) (by have := HQ3.out.lt; simp [World.setCell] at this ⊢; omega) (wf.heap.size + 1) (by simp [World.setCell]) ?_; intro g9 cap9 w9 hown9 hgrow9 hat9 _; have HE9 := hide (pap_post (W := wf.setCell ⟨wd.heap.size, 2, none⟩ (.int .i64 a3)) HG3.out HQ3.out HA3.out (fun k hk => (HOW.out.lt k hk).1) hgrow9 HSP.out (by have := HRB.out; have := HSP.out; omega)); have z94 := HE9.out.2.1.fz 4; have y94 := HE9.out.2.1.k4; have HOW9 := hide hown9; clear hown9 hgrow9 hat9)
                  | (have hx := HI2; clear hx; go_at_call 32; refine (L3.out _ HA2.out).mono ?_; rintro e3 wf ⟨a3, rfl, hw3, F3, hr3⟩; have i3 := HI2.out.frr F3 (by have := HRB.out; have := HSP.out; have := HPS.out; have := HSD.out; omega); have fi3 := i3.fz 2; have yi3 := i3.k2; have HI3 := hide (i3.s2 (.int .i64 a3)); have HA3 := hide (hr3.setO (g := wd.heap.size) (i := 2) (u := .int .i64 a3) (by have := HRB.out; have := HSP.out; have := HPS.out; have := HSD.out; omega)); have HW3 := hide hw3; have HG3 := hide ((HG2.out.trans F3 (fun _ _ e => e)).setCell (g := wd.heap.size) (fun e => by have := HRB.out; have := HSP.out; have := HPS.out; have := HSD.out; omega) 2 (.int .i64 a3)); have HQ3 := hide ((HQ2.out.frr F3 (by have := HRB.out; have := HSP.out; omega)).oo (g := wd.heap.size) (i := 2) (x := .int .i64 a3) (by have := HPS.out; have := HSD.out; omega)); have HO3 := hide (own_set2 (own_fr HO2.out F3 (by have := HRB.out; have := HSP.out; omega)) (b := wd.heap.size) (i := 2) (u := .int .i64 a3) (fun e => by have := (HOW.out.lt _ e).2; have := HSD.out; omega)); have ya0 := HI3.out.k0; have ya1 := HI3.out.k1; have ya2 := HI3.out.k2; have yb4 := HQ3.out.k4; clear F3 hr3 hw3 i3)
                  | (have hx := HI1; clear hx; go_at_call 32; refine (L2.out _ HA1.out).mono ?_; rintro e2 we ⟨a2, rfl, hw2, F2, hr2⟩; have i2 := HI1.out.frr F2 (by have := HRB.out; have := HSP.out; have := HPS.out; have := HSD.out; omega); have fi2 := i2.fz 1; have yi2 := i2.k1; have HI2 := hide (i2.s1 (.int .i64 a2)); have HA2 := hide (hr2.setO (g := wd.heap.size) (i := 1) (u := .int .i64 a2) (by have := HRB.out; have := HSP.out; have := HPS.out; have := HSD.out; omega)); have HW2 := hide hw2; have HG2 := hide ((HG1.out.trans F2 (fun _ _ e => e)).setCell (g := wd.heap.size) (fun e => by have := HRB.out; have := HSP.out; have := HPS.out; have := HSD.out; omega) 1 (.int .i64 a2)); have HQ2 := hide ((HQ1.out.frr F2 (by have := HRB.out; have := HSP.out; omega)).oo (g := wd.heap.size) (i := 1) (x := .int .i64 a2) (by have := HPS.out; have := HSD.out; omega)); have HO2 := hide (own_set2 (own_fr HO1.out F2 (by have := HRB.out; have := HSP.out; omega)) (b := wd.heap.size) (i := 1) (u := .int .i64 a2) (fun e => by have := (HOW.out.lt _ e).2; have := HSD.out; omega)); clear F2 hr2 hw2 i2)
                  | (go_at_call 30; refine L1.out.mono ?_; rintro ea wd ⟨k1, rfl, hka, hw1, Fa, hra⟩; have i1 : IBx (wd.alloc (.cells #[.int .i64 (k1 : Int), .int .i64 0, .int .i64 0] 50)) wd.heap.size (.int .i64 (k1 : Int)) (.int .i64 0) (.int .i64 0) := heap_alloc_new wd _; have ha2 := hra.mono (up_alloc wd (.cells #[.int .i64 (k1 : Int), .int .i64 0, .int .i64 0] 50)); have HI1 := hide i1; have HA1 := hide ha2; have HW1 := hide hw1; have HG1 := hide ((HF.out.trans Fa (fun _ _ e => e)).alloc (.cells #[.int .i64 (k1 : Int), .int .i64 0, .int .i64 0] 50)); have HQ1 := hide ((HP.out.frr Fa (by have := HRB.out; have := HSP.out; omega)).al (.cells #[.int .i64 (k1 : Int), .int .i64 0, .int .i64 0] 50)); have HO1 := hide ((own_fr HOW.out Fa (by have := HRB.out; have := HSP.out; omega)).alloc (.cells #[.int .i64 (k1 : Int), .int .i64 0, .int .i64 0] 50)); have HSD : Hid (wr.heap.size ≤ wd.heap.size) := Fa.size; clear Fa hra ha2 hw1 i1 hka))
                refine ⟨⟨j + 1, xs ++ [((k1 : Int), a2, a3)], _, _, _, ost Y3, Nat.succ_le_of_lt HJL.out, by go_num, HE9.out.1.setCell (g := wb.heap.size) (fun e => by have := HRB.out; have := HSP.out; omega) 4 _, HE9.out.2.1.s4 _, HE9.out.2.2.setO (by have := HRB.out; have := HSP.out; omega), own_set HOW9.out (Nat.lt_succ_self _), fun x hx => ⟨by simp [HXL.out], by rw [HYS.out]; simp [cI]⟩, HNX.out k1 a2 a3 HW1.out HW2.out HW3.out⟩, by have := HJL.out; simp [intOf]; omega⟩
            · have hjI : ¬ ((j : Int) < (n5 : Int)) := by omega
              have HC := hide (show _ ∧ _ from ⟨hF, hP⟩)
              have hX1 : X6 = moreP xs (og (rdRow rdIns 0) o) := by rw [hX, show n5 - j = 0 by omega]
              have HC2 : Hid (RfO w wr w.heap.size (ost X6)) := by
                unfold Hid
                rw [hX1]
                cases o with
                | none => exact hR
                | some x =>
                  obtain ⟨l', q'⟩ := x
                  rw [row_og0]
                  exact hR
              have HC3 : Hid (∀ zs m q, X6 = some (zs, m, q) → zs.length = j ∧ CodeL wr ao cap zs ∧ AQ (fun b => wb.heap.size + 1 ≤ b) ao zs.length) := by
                intro zs m q e
                rw [hX1] at e
                cases o with
                | none => cases e
                | some x =>
                  obtain ⟨l', q'⟩ := x
                  rw [row_og0] at e
                  cases e
                  obtain ⟨hl1, hl2⟩ := hg _ rfl
                  obtain ⟨ao', cap', e1, e2, e3, e4⟩ := own_shape hO
                  cases e1
                  refine ⟨hl1, codeL_of (B := wb.heap.size + 1) (by omega) e3 ?_⟩
                  rw [hl1, ← hl2]
                  exact e4
              clear hF hP hR hO hg hX hX1
              go_wp2_with fail
              go_meet
              exact ⟨ao, cap, j, hide HC.out.1, hide HC.out.2, HC2, HC3⟩
        case rest =>
          obtain ⟨aoc, capc, jc, HFc, HPc, HRc, HCc⟩ := hcut
          clear HR1 HR2 HR3 HR4 HR5 HR6 HP2 HP3 HP4 HP5 HP6 HF1 HF2 HF3 HF4 HF5 HF6
          obtain ⟨wk, rfl⟩ : ∃ x, x = wc := ⟨wc, rfl⟩
          obtain ⟨X7, e7⟩ : ∃ X, X = og rdNum (ost X6) := ⟨_, rfl⟩
          have K7 := fun (W : World) (h' : RfO w W w.heap.size (ost X6)) => lnumO w W w.heap.size _ h'
          simp only [← e7] at K7
          replace K7 := hide K7
          have HE7 := hide e7
          clear e7
          go_upto_block 4 with (go_at_call 30; refine (K7.out _ HRc.out).mono ?_; rintro e7 w7 ⟨n7, rfl, hm7, hv7, F7, hr7⟩; have HP7 := hide (HPc.out.frr F7 (by have := HRB.out; have := HSP.out; omega)); have HR7 := hide hr7; have HF7 := hide (HFc.out.trans F7 (fun _ _ e => e)); have HV7 := hide hv7; have HX7 := hide F7; clear F7 hr7 hv7)
          have HE8 : Hid (∃ X8, X8 = ogP (rdRowP (lrDat h 100) n7) (ost X7)) := ⟨_, rfl⟩
          obtain ⟨X8, e8⟩ := HE8.out
          have HX8 := hide e8
          have HN7 : Hid (n7 ≤ 4398046511104) := hm7
          clear e8 hm7
          have HLO : Hid (wb.heap.size + 1 ≤ w7.heap.size) := HP7.out.lt
          go_cut [13] from 50 to 154 (fun _ wc => ∃ (ak : Option Addr) (ck jk : Nat), Hid (Fr (fun j => j = w.heap.size) wo wc) ∧ Hid (PBx wc wb.heap.size (.string t2) (.int .i64 (m3 : Int)) (.int .i64 (m5 : Int)) (.bool b4) (.slice aoc jc capc) (.slice ak jk ck) (.slice none 0 0)) ∧ Hid (RfO w wc w.heap.size (ost X8)) ∧ Hid (Kb (wb.heap.size + 1) w7 wc) ∧ Hid (∀ ks m q, X8 = some (ks, m, q) → ks.length = jk ∧ RowD wc (DatQ (fun b => wb.heap.size + 1 ≤ b) wc h) (.slice ak jk ck) ks ∧ VQ (fun b => wb.heap.size + 1 ≤ b) (.slice ak jk ck) ks.length))
          case first =>
            go_wp2_with fail
            go_loopw [13] (fun a13 wr => ∃ (j : Nat) (I2 : List (Tr h)) (ys : List Value) (ao : Option Addr) (cap : Nat) (o : Option (List Nat × Nat)), j ≤ n7 ∧ a13 = .int .i64 (j : Int) ∧ Fr (fun j => j = w.heap.size) wo wr ∧ Kb (wb.heap.size + 1) w7 wr ∧ PBx wr wb.heap.size (.string t2) (.int .i64 (m3 : Int)) (.int .i64 (m5 : Int)) (.bool b4) (.slice aoc jc capc) (.slice ao j cap) (.slice none 0 0) ∧ RfO w wr w.heap.size o ∧ wr.ownsRow w7.heap.size 64 7 (.slice ao j cap) j ys ∧ (∀ x, o = some x → n7 ≤ 1099511627776 ∧ I2.length = j ∧ LQ w7.heap.size I2 (.slice ao j cap) ys wr) ∧ X8 = moreP I2 (ogP (rdRowP (lrDat h 100) (n7 - j)) o)) (fun a13 _ => n7 - (intOf a13).toNat)
            case atStart => exact ⟨0, [], [], none, 0, ost X7, Nat.zero_le _, rfl, HF7.out, ⟨Nat.le_refl _, fun _ _ _ => rfl⟩, HP7.out, HR7.out, World.ownsRow_nil _ _ _ _, fun x hx => ⟨onum_le (by rw [← HE7.out]; exact HV7.out) (by rw [← HE7.out]; exact hx), rfl, LQ.nil _ _ _⟩, by rw [moreP_nil, Nat.sub_zero]; exact HX8.out⟩
            case round =>
              obtain ⟨j, I2, ys, ao, cap, o, hj, rfl, hF, hKb, hP, hR, hO, hg, hX⟩ := hrel
              clear HR7 HP7 HF7 HRc HPc HFc
              have HKI := hide hKb
              by_cases hjl : j < n7
              · have hjI : (j : Int) < (n7 : Int) := by omega
                have hjb : j < 4398046511104 := by have := HN7.out; omega
                cases o with
                | none =>
                  have b9 : wr.cell? ⟨w.heap.size, 1, none⟩ = some (.bool true) := hR.k1
                  have hX0 : X8 = none := hX.trans rfl
                  have HC := hide (show _ ∧ _ from ⟨hF, hP⟩)
                  have HC2 : Hid (RfO w wr w.heap.size (ost X8)) := by unfold Hid; rw [hX0]; exact hR
                  have HC3 : Hid (X8 = none) := hX0
                  clear hF hP hR hO hg hX hX0 hKb
                  go_wp2_with fail
                  go_meet
                  exact ⟨ao, cap, j, hide HC.out.1, hide HC.out.2, HC2, HKI, hide (fun xs m q e => by rw [HC3.out] at e; cases e)⟩
                | some x =>
                  obtain ⟨mm2, q2⟩ := x
                  obtain ⟨hnb2, hIl2, hL2⟩ := hg _ rfl
                  have b9 : wr.cell? ⟨w.heap.size, 1, none⟩ = some (.bool false) := hR.k1
                  rw [show n7 - j = (n7 - (j + 1)) + 1 by omega, rowP_next] at hX
                  have K4 := hide (ldatO HDD.out hh w wr.drew w.heap.size q2 mm2 hR.drew)
                  have HST : Hid (PBx wr wb.heap.size (.string t2) (.int .i64 (m3 : Int)) (.int .i64 (m5 : Int)) (.bool b4) (.slice aoc jc capc) (.slice ao j cap) (.slice none 0 0)) ∧ Hid (Fr (fun j => j = w.heap.size) wo wr) := ⟨hP, hF⟩
                  have x95 := hP.k5
                  have HLQ := hide hL2
                  have HIL2 := hide hIl2
                  have HNX := hide hX
                  have HOW := hide hO
                  have HJL := hide hjl
                  have HPS : Hid (wb.heap.size + 1 ≤ wr.heap.size) := hP.lt
                  have HSZ : Hid (w7.heap.size ≤ wr.heap.size) := hKb.1
                  clear hF hP hR hO hg hX hIl2 hL2 hKb
                  go_upto_region 26 with fail
                  refine wp_region_A (fun k => k != 7) (fun w' => w'.cell? ⟨wb.heap.size, 5, none⟩ = some (.slice ao j cap)) (by kernel_rfl) HST.1.out.drew.k5 (fun hS0 => ?_)
                  refine wpAnyA_take (fun k => k == 1 || k == 5 || k == 7) (i := 0) (oi := { dst := some 120, op := Op.fieldAddr 48 (Operand.tmp 9) 5, type := 0, pos := "ref.go:295", after := #[], guard := none }) (v := ?_) rfl (by kernel_rfl) (by kernel_rfl) (by kernel_rfl) (by kernel_rfl) (by kernel_rfl) (fun _ _ _ h => h) (Or.inl ⟨by rfl, ?_⟩) (by assumption) ?_; rotate_left; · (intro w hSw; (try dsimp only at hSw); go_simp; (try with_reducible rfl)); try simp only [Act.put, List.setIfInBounds_toArray, List.set_cons_zero, List.set_cons_succ]
                  refine wpAnyA_take (fun k => k == 5 || k == 7) (i := 1) (oi := { dst := some 121, op := Op.load 45 (Operand.tmp 120), type := 45, pos := "ref.go:295", after := #[{ on := 0, ground := Ground.data }], guard := none }) (v := ?_) rfl (by kernel_rfl) (by kernel_rfl) (by kernel_rfl) (by kernel_rfl) (by kernel_rfl) (fun _ _ _ h => h) (Or.inl ⟨by rfl, ?_⟩) (by assumption) ?_; rotate_left; · (intro w hSw; (try dsimp only at hSw); go_simp; (try with_reducible rfl)); try simp only [Act.put, List.setIfInBounds_toArray, List.set_cons_zero, List.set_cons_succ]
                  refine wpAnyA_take (fun k => k == 3 || k == 4 || k == 5 || k == 7) (i := 2) (oi := { dst := some 122, op := Op.move (Operand.tmp 4), type := 69, pos := "ref.go:295", after := #[], guard := none }) (v := ?_) rfl (by kernel_rfl) (by kernel_rfl) (by kernel_rfl) (by kernel_rfl) (by kernel_rfl) (fun _ _ _ h => h) (Or.inl ⟨by rfl, ?_⟩) (by assumption) ?_; rotate_left; · (intro w hSw; (try dsimp only at hSw); go_simp; (try with_reducible rfl)); try simp only [Act.put, List.setIfInBounds_toArray, List.set_cons_zero, List.set_cons_succ]
                  refine wpAnyA_one (i := 3) (o := { dst := some 123, op := Op.call { callee := Callee.value (Operand.func 33), args := #[Operand.tmp 122, Operand.const (Value.int IntKind.i64 1)], argTypes := #[69, 3] }, type := 64, pos := "ref.go:295", after := #[{ on := 2, ground := Ground.data }], guard := none }) (by kernel_rfl) rfl (fun K hK => ?_)
                  go_simp
                  go_at_call 33
                  refine K4.out.mono ?_
                  rintro e4 w4 ⟨kk, nn, bb, e1, e2, e3, tt, i1, i2, i3, r1, r2, r3, rfl, F4, hr4, hdq⟩
                  have D4 := (HST.1.out.drew).frr F4 (by have := HRB.out; have := HSP.out; omega)
                  have HOW4 := hide (own_fr (w := wr.drew) HOW.out F4 (by have := HRB.out; have := HSP.out; have := HLO.out; omega))
                  have HD4 := hide D4
                  have HR4 := hide hr4
                  have HF4 := hide (HST.2.out.drew.trans F4 (fun _ _ e => e))
                  have HX4 := hide F4
                  have HQ4 := hide hdq
                  clear F4 hr4 D4 hdq
                  go_wp2_with fail
                  refine hK.out _ _ HD4.out.k5 (fun hHeld4 => ?_)
                  clear hK K hS0
                  try simp only [Act.put, List.setIfInBounds_toArray, List.set_cons_zero, List.set_cons_succ]
                  refine wpAnyA_one (i := 4) (o := { dst := some 124, op := Op.buildSlice 45 1 #[(0, Operand.tmp 123)], type := 45, pos := "ref.go:295", after := #[{ on := 3, ground := Ground.data }], guard := none }) (by kernel_rfl) rfl (fun K hK => ?_)
                  rw [if_pos (by rfl)]
                  refine wp_buildSlice 45 64 1 _ rfl #[.int .i64 kk, .int .i64 nn, .bool bb, .slice e1 e2 e3, .string tt, .slice i1 i2 i3, .slice r1 r2 r3] iD _ Try.underlying45 hiD zD0 (by rw [zD1]; decide) (by rw [zD1]; decide) (by rw [zD1]; kernel_rfl) ?_
                  refine hK.out _ _ (HD4.out.al _).k5 (fun hHeld5 => ?_)
                  clear hK K hHeld4
                  try simp only [Act.put, List.setIfInBounds_toArray, List.set_cons_zero, List.set_cons_succ]
                  refine wpAnyA_one (i := 5) (o := { dst := some 125, op := Op.call { callee := Callee.builtin Builtin.append, args := #[Operand.tmp 121, Operand.tmp 124], argTypes := #[45, 45] }, type := 45, pos := "ref.go:295", after := #[{ on := 1, ground := Ground.data }, { on := 4, ground := Ground.data }, { on := 3, ground := Ground.chain }], guard := none }) (by kernel_rfl) rfl (fun K hK => ?_)
                  refine step_append_lies _ (by rfl) _ _ 45 (by rfl) w7.heap.size 64 iD _ 7 112 Try.underlying45 hiD zD0 zD1 zD2 rfl (by decide) _ j ys (by rfl) (HOW4.out.alloc _) ⟨w4.heap.size, 0, none⟩ 1 1 [.int .i64 kk, .int .i64 nn, .bool bb, .slice e1 e2 e3, .string tt, .slice i1 i2 i3, .slice r1 r2 r3] (by rfl) rfl (hcells7 w4 _ _ _ _ _ _ _ _) (ones7 _ _ _ _ _ _ _ _ _ _ _ _ _) (by decide) (by have := HJL.out; unfold maxLen; omega) (by have := HJL.out; omega) (by have := HX4.out.size; have := HSZ.out; have e0 : wr.drew.heap.size = wr.heap.size := rfl; simp; omega) (w4.heap.size + 1) (by simp) ?_
                  intro g9 cap9 w9 hown9 hgrow9 hat9 _
                  have HE9 := hide (pap_post (W := w4) HF4.out HD4.out HR4.out (fun k hk => Nat.le_trans HLO.out (HOW.out.lt k hk).1) hgrow9 HSP.out (by have := HRB.out; have := HSP.out; omega))
                  have HOW9 := hide hown9
                  have HKZ : Hid (Kb (wb.heap.size + 1) w7 w9) := hide (kb_app HKI.out HX4.out hgrow9 (fun k hk => (HOW.out.lt k hk).1) (by have := HRB.out; have := HSP.out; omega))
                  have HLN : Hid (∀ tr m q, lrDat h 100 mm2 q2 = some (tr, m, q) → LQ w7.heap.size (I2 ++ [tr]) (.slice (some ⟨g9, 0, none⟩) (j + 1) cap9) (ys ++ [.int .i64 kk, .int .i64 nn, .bool bb, .slice e1 e2 e3, .string tt, .slice i1 i2 i3, .slice r1 r2 r3]) w9) := (fun tr m q e => by have := LQ.snoc (I := I2) (v := .slice ao j cap) (xs := ys) (wr := wr.drew) (w2 := w4) (g := g9) (cap := cap9) HLQ.out.drew HSZ.out HX4.out.size (fun b hb hl => HX4.out.block b hb (by show b ≠ w.heap.size; have := HRB.out; have := HSP.out; have := HLO.out; omega)) (HQ4.out tr m q e) (by rw [HIL2.out]; exact hown9) hgrow9 hat9; rw [HIL2.out] at this; exact this)
                  clear hown9 hgrow9 hat9
                  refine hK.out _ _ HE9.out.2.1.k5 (fun hHeld6 => ?_)
                  clear hK K hHeld5
                  try simp only [Act.put, List.setIfInBounds_toArray, List.set_cons_zero, List.set_cons_succ]
                  refine wpAnyA_take (fun k => k == 7) (i := 6) (oi := { dst := some 126, op := Op.fieldAddr 48 (Operand.tmp 9) 5, type := 0, pos := "ref.go:295", after := #[{ on := 0, ground := Ground.phase }, { on := 1, ground := Ground.phase }, { on := 2, ground := Ground.phase }, { on := 3, ground := Ground.phase }, { on := 4, ground := Ground.phase }, { on := 5, ground := Ground.phase }], guard := none }) (v := ?_) rfl (by kernel_rfl) (by kernel_rfl) (by kernel_rfl) (by kernel_rfl) (by kernel_rfl) (fun _ _ _ h => h) (Or.inl ⟨by rfl, ?_⟩) (by assumption) ?_; rotate_left; · (intro w hSw; (try dsimp only at hSw); go_simp; (try with_reducible rfl)); try simp only [Act.put, List.setIfInBounds_toArray, List.set_cons_zero, List.set_cons_succ]
                  refine wpAnyA_oneB (i := 7) (o := { dst := none, op := Op.store 45 (Operand.tmp 126) (Operand.tmp 125), type := 0, pos := "ref.go:295", after := #[{ on := 6, ground := Ground.data }, { on := 5, ground := Ground.data }, { on := 5, ground := Ground.chain }, { on := 0, ground := Ground.phase }, { on := 1, ground := Ground.phase }, { on := 2, ground := Ground.phase }, { on := 3, ground := Ground.phase }, { on := 4, ground := Ground.phase }, { on := 5, ground := Ground.phase }], guard := none }) (by kernel_rfl) rfl (by rfl) (fun K hK => ?_)
                  rw [if_pos (by rfl)]
                  simp [go_sem, HE9.out.2.1.fz 5, HE9.out.2.1.k5]
                  refine hK.out _ _ ?_
                  clear hK K
                  try simp only [Act.put, List.setIfInBounds_toArray, List.set_cons_zero, List.set_cons_succ]
                  refine wpAnyA_done (by kernel_rfl) ?_ _
                  go_wp2_with fail
                  refine ⟨⟨j + 1, nI I2 (lrDat h 100 mm2 q2), _, _, _, ost (lrDat h 100 mm2 q2), Nat.succ_le_of_lt HJL.out, by go_num, HE9.out.1.setCell (g := wb.heap.size) (fun e => by have := HRB.out; have := HSP.out; omega) 5 _, (HKZ.out.trans (Kb.set _ (Nat.lt_succ_self _) _ _)), HE9.out.2.1.s5 _, HE9.out.2.2.setO (by have := HRB.out; have := HSP.out; omega), own_set HOW9.out (by have := HLO.out; omega), fun x hx => ⟨hnb2, ?_⟩, HNX.out⟩, by have := HJL.out; simp [intOf]; omega⟩
                  cases ho4 : lrDat h 100 mm2 q2 with
                  | none => rw [ho4] at hx; cases hx
                  | some y =>
                    obtain ⟨tr, m', q'⟩ := y
                    exact ⟨by simp [nI, HIL2.out], LQ.set (HLN.out tr m' q' ho4) (by have := HLO.out; omega)⟩
              · have hjI : ¬ ((j : Int) < (n7 : Int)) := by omega
                have HC := hide (show _ ∧ _ from ⟨hF, hP⟩)
                have hX1 : X8 = moreP I2 (ogP (rdRowP (lrDat h 100) 0) o) := by rw [hX, show n7 - j = 0 by omega]
                have HC2 : Hid (RfO w wr w.heap.size (ost X8)) := by
                  unfold Hid
                  rw [hX1]
                  cases o with
                  | none => exact hR
                  | some x =>
                    obtain ⟨l', q'⟩ := x
                    rw [rowP_og0]
                    exact hR
                have HC3 : Hid (∀ zs m q, X8 = some (zs, m, q) → zs.length = j ∧ RowD wr (DatQ (fun b => wb.heap.size + 1 ≤ b) wr h) (.slice ao j cap) zs ∧ VQ (fun b => wb.heap.size + 1 ≤ b) (.slice ao j cap) zs.length) := by
                  intro zs m q e
                  rw [hX1] at e
                  cases o with
                  | none => cases e
                  | some x =>
                    obtain ⟨l', q'⟩ := x
                    rw [rowP_og0] at e
                    cases e
                    obtain ⟨-, hl1, hl2⟩ := hg _ rfl
                    exact ⟨hl1, LQ.row hl2 HLO.out (fun _ _ _ => rfl)⟩
                clear hF hP hR hO hg hX hX1 hKb
                go_wp2_with fail
                go_meet
                exact ⟨ao, cap, j, hide HC.out.1, hide HC.out.2, HC2, HKI, HC3⟩
          case rest =>
            obtain ⟨ak, ck, jk, HFk, HPk, HRk, HKk, HCk⟩ := hcut
            clear HR7 HP7 HF7 HRc HPc HFc
            obtain ⟨wn, rfl⟩ : ∃ x, x = wc := ⟨wc, rfl⟩
            obtain ⟨X9, e9⟩ : ∃ X, X = og rdNum (ost X8) := ⟨_, rfl⟩
            have K9 := fun (W : World) (h' : RfO w W w.heap.size (ost X8)) => lnumO w W w.heap.size _ h'
            simp only [← e9] at K9
            replace K9 := hide K9
            have HE9x := hide e9
            clear e9
            go_upto_block 6 with (go_at_call 30; refine (K9.out _ HRk.out).mono ?_; rintro e9 w9 ⟨n9, rfl, hm9, hv9, F9, hr9⟩; have HP9 := hide (HPk.out.frr F9 (by have := HRB.out; have := HSP.out; omega)); have HR9 := hide hr9; have HF9 := hide (HFk.out.trans F9 (fun _ _ e => e)); have HV9 := hide hv9; have HX9 := hide F9; clear F9 hr9 hv9)
            have HE10 : Hid (∃ X10, X10 = og (rdRow rdTxt n9) (ost X9)) := ⟨_, rfl⟩
            obtain ⟨X10, e10⟩ := HE10.out
            have HX10 := hide e10
            have HN9 : Hid (n9 ≤ 4398046511104) := hm9
            clear e10 hm9
            have HLO9 : Hid (wb.heap.size + 1 ≤ w9.heap.size) := HP9.out.lt
            go_cut [14] from 50 to 154 (fun _ wc => ∃ (an : Option Addr) (cn jn : Nat), Hid (Fr (fun j => j = w.heap.size) wo wc) ∧ Hid (PBx wc wb.heap.size (.string t2) (.int .i64 (m3 : Int)) (.int .i64 (m5 : Int)) (.bool b4) (.slice aoc jc capc) (.slice ak jk ck) (.slice an jn cn)) ∧ Hid (RfO w wc w.heap.size (ost X10)) ∧ Hid (Kb (wb.heap.size + 1) w9 wc) ∧ Hid (∀ ns m q, X10 = some (ns, m, q) → ns.length = jn ∧ NameL wc an cn ns ∧ AQ (fun b => wb.heap.size + 1 ≤ b) an ns.length))
            case first =>
              go_wp2_with fail
              go_loopw [14] (fun a14 wr => ∃ (j : Nat) (zs : List ByteArray) (ys : List Value) (ao : Option Addr) (cap : Nat) (o : Option (List Nat × Nat)), j ≤ n9 ∧ a14 = .int .i64 (j : Int) ∧ Fr (fun j => j = w.heap.size) wo wr ∧ Kb (wb.heap.size + 1) w9 wr ∧ PBx wr wb.heap.size (.string t2) (.int .i64 (m3 : Int)) (.int .i64 (m5 : Int)) (.bool b4) (.slice aoc jc capc) (.slice ak jk ck) (.slice ao j cap) ∧ RfO w wr w.heap.size o ∧ wr.ownsRow w9.heap.size 9 1 (.slice ao j cap) j ys ∧ (∀ x, o = some x → zs.length = j ∧ ys = cN zs) ∧ X10 = moreP zs (og (rdRow rdTxt (n9 - j)) o)) (fun a14 _ => n9 - (intOf a14).toNat)
              case atStart => exact ⟨0, [], [], none, 0, ost X9, Nat.zero_le _, rfl, HF9.out, ⟨Nat.le_refl _, fun _ _ _ => rfl⟩, HP9.out, HR9.out, World.ownsRow_nil _ _ _ _, fun _ _ => ⟨rfl, rfl⟩, by rw [moreP_nil, Nat.sub_zero]; exact HX10.out⟩
              case round =>
                obtain ⟨j, zs, ys, ao, cap, o, hj, rfl, hF, hKb, hP, hR, hO, hg, hX⟩ := hrel
                clear HR9 HP9 HF9 HRk HPk HFk
                have HKI := hide hKb
                by_cases hjl : j < n9
                · have hjI : (j : Int) < (n9 : Int) := by omega
                  have hjb : j < 4398046511104 := by have := HN9.out; omega
                  cases o with
                  | none =>
                    have b9 : wr.cell? ⟨w.heap.size, 1, none⟩ = some (.bool true) := hR.k1
                    have hX0 : X10 = none := hX.trans rfl
                    have HC := hide (show _ ∧ _ from ⟨hF, hP⟩)
                    have HC2 : Hid (RfO w wr w.heap.size (ost X10)) := by unfold Hid; rw [hX0]; exact hR
                    have HC3 : Hid (X10 = none) := hX0
                    clear hF hP hR hO hg hX hX0 hKb
                    go_wp2_with fail
                    go_meet
                    exact ⟨ao, cap, j, hide HC.out.1, hide HC.out.2, HC2, HKI, hide (fun xs m q e => by rw [HC3.out] at e; cases e)⟩
                  | some x =>
                    obtain ⟨mm2, q2⟩ := x
                    obtain ⟨hzl, hys⟩ := hg _ rfl
                    have b9 : wr.cell? ⟨w.heap.size, 1, none⟩ = some (.bool false) := hR.k1
                    rw [show n9 - j = (n9 - (j + 1)) + 1 by omega] at hX
                    obtain ⟨M1, em⟩ : ∃ X, X = og rdNum (some (mm2, q2)) := ⟨_, rfl⟩
                    obtain ⟨Y1, ey1⟩ : ∃ Y, Y = og rdTxt (some (mm2, q2)) := ⟨_, rfl⟩
                    have L1 := lnumO w wr.drew w.heap.size _ hR.drew
                    rw [← em] at L1
                    have L2 : ∀ (W : World) (n' : Nat), RfO w W w.heap.size (ost M1) → ov M1 n' → Calls Try.prog 29 #[.pointer (some ⟨w.heap.size, 0, none⟩), .int .i64 (n' : Int)] W fun e w' => ∃ (v : Value) (t : ByteArray), e = .returned v ∧ (convert 23 9 v).run Try.prog w' = .ok (.string t) w' ∧ ov Y1 t ∧ Fr (fun j => j = w.heap.size) W w' ∧ RfO w w' w.heap.size (ost Y1) := fun W n' h' hv => by
                      have hh' := ltakeO w W w.heap.size n' _ h'
                      have et : otake n' (ost M1) = Y1 := by rw [em, ey1]; exact otake_txt (by rw [← em]; exact hv)
                      rw [et] at hh'
                      exact hh'
                    have HNX : Hid (∀ t, ov Y1 t → X10 = moreP (zs ++ [t]) (og (rdRow rdTxt (n9 - (j + 1))) (ost Y1))) := fun t v1 => by
                      rw [hX, row_step (x := t) (by rw [← ey1]; exact v1), ← ey1]
                    replace L1 := hide L1
                    replace L2 := hide L2
                    have HST : Hid (PBx wr wb.heap.size (.string t2) (.int .i64 (m3 : Int)) (.int .i64 (m5 : Int)) (.bool b4) (.slice aoc jc capc) (.slice ak jk ck) (.slice ao j cap)) ∧ Hid (Fr (fun j => j = w.heap.size) wo wr) := ⟨hP, hF⟩
                    have HZL := hide hzl
                    have HYS := hide hys
                    have HOW := hide hO
                    have HJL := hide hjl
                    have HSZ : Hid (w9.heap.size ≤ wr.heap.size) := hKb.1
                    clear hF hP hR hO hg hX hzl hys hKb em ey1
                    go_upto_region 31 with fail
                    refine wp_region_A (fun k => k != 10) (fun w' => w'.cell? ⟨wb.heap.size, 6, none⟩ = some (.slice ao j cap)) (by kernel_rfl) HST.1.out.drew.k6 (fun hS0 => ?_)
                    refine wpAnyA_take (fun k => k == 1 || k == 8 || k == 10) (i := 0) (oi := { dst := some 141, op := Op.fieldAddr 48 (Operand.tmp 9) 6, type := 0, pos := "ref.go:299", after := #[], guard := none }) (v := ?_) rfl (by kernel_rfl) (by kernel_rfl) (by kernel_rfl) (by kernel_rfl) (by kernel_rfl) (fun _ _ _ h => h) (Or.inl ⟨by rfl, ?_⟩) (by assumption) ?_; rotate_left; · (intro w hSw; (try dsimp only at hSw); go_simp; (try with_reducible rfl)); try simp only [Act.put, List.setIfInBounds_toArray, List.set_cons_zero, List.set_cons_succ]
                    refine wpAnyA_take (fun k => k == 8 || k == 10) (i := 1) (oi := { dst := some 142, op := Op.load 46 (Operand.tmp 141), type := 46, pos := "ref.go:299", after := #[{ on := 0, ground := Ground.data }], guard := none }) (v := ?_) rfl (by kernel_rfl) (by kernel_rfl) (by kernel_rfl) (by kernel_rfl) (by kernel_rfl) (fun _ _ _ h => h) (Or.inl ⟨by rfl, ?_⟩) (by assumption) ?_; rotate_left; · (intro w hSw; (try dsimp only at hSw); go_simp; (try with_reducible rfl)); try simp only [Act.put, List.setIfInBounds_toArray, List.set_cons_zero, List.set_cons_succ]
                    refine wpAnyA_take (fun k => k == 5 || k == 6 || k == 7 || k == 8 || k == 10) (i := 2) (oi := { dst := some 143, op := Op.move (Operand.tmp 4), type := 69, pos := "ref.go:299", after := #[], guard := none }) (v := ?_) rfl (by kernel_rfl) (by kernel_rfl) (by kernel_rfl) (by kernel_rfl) (by kernel_rfl) (fun _ _ _ h => h) (Or.inl ⟨by rfl, ?_⟩) (by assumption) ?_; rotate_left; · (intro w hSw; (try dsimp only at hSw); go_simp; (try with_reducible rfl)); try simp only [Act.put, List.setIfInBounds_toArray, List.set_cons_zero, List.set_cons_succ]
                    refine wpAnyA_take (fun k => k == 4 || k == 5 || k == 6 || k == 7 || k == 8 || k == 10) (i := 3) (oi := { dst := some 144, op := Op.move (Operand.tmp 4), type := 69, pos := "ref.go:299", after := #[], guard := none }) (v := ?_) rfl (by kernel_rfl) (by kernel_rfl) (by kernel_rfl) (by kernel_rfl) (by kernel_rfl) (fun _ _ _ h => h) (Or.inl ⟨by rfl, ?_⟩) (by assumption) ?_; rotate_left; · (intro w hSw; (try dsimp only at hSw); go_simp; (try with_reducible rfl)); try simp only [Act.put, List.setIfInBounds_toArray, List.set_cons_zero, List.set_cons_succ]
                    refine wpAnyA_one (i := 4) (o := { dst := some 145, op := Op.call { callee := Callee.value (Operand.func 30), args := #[Operand.tmp 144], argTypes := #[69] }, type := 3, pos := "ref.go:299", after := #[{ on := 3, ground := Ground.data }], guard := none }) (by kernel_rfl) rfl (fun K hK => ?_)
                    go_simp
                    go_at_call 30
                    refine L1.out.mono ?_
                    rintro e4 wd ⟨k1, rfl, hka, hw1, Fa, hra⟩
                    have D1 := (HST.1.out.drew).frr Fa (by have := HRB.out; have := HSP.out; omega)
                    have HD1 := hide D1
                    have HRA := hide hra
                    have HW1 := hide hw1
                    have HFa := hide Fa
                    clear Fa hra D1 hw1 hka
                    go_wp2_with fail
                    refine hK.out _ _ HD1.out.k6 (fun hHeld4 => ?_)
                    clear hK K hS0
                    try simp only [Act.put, List.setIfInBounds_toArray, List.set_cons_zero, List.set_cons_succ]
                    refine wpAnyA_one (i := 5) (o := { dst := some 146, op := Op.call { callee := Callee.value (Operand.func 29), args := #[Operand.tmp 143, Operand.tmp 145], argTypes := #[69, 3] }, type := 23, pos := "ref.go:299", after := #[{ on := 2, ground := Ground.data }, { on := 4, ground := Ground.data }, { on := 4, ground := Ground.chain }], guard := none }) (by kernel_rfl) rfl (fun K hK => ?_)
                    go_simp
                    go_at_call 29
                    refine (L2.out _ _ HRA.out HW1.out).mono ?_
                    rintro e5 we ⟨v5, t5, rfl, kc5, hv5, F5, hr5⟩
                    have D2 := HD1.out.frr F5 (by have := HRB.out; have := HSP.out; omega)
                    have HD2 := hide D2
                    have HR5x := hide hr5
                    have HV5x := hide hv5
                    have HFe := hide (HFa.out.trans F5 (fun _ _ e => e))
                    have HOWe := hide (own_fr (w := wr.drew) HOW.out HFe.out (by have := HRB.out; have := HSP.out; have := HLO9.out; omega))
                    clear F5 hr5 hv5 D2
                    go_wp2_with fail
                    refine hK.out _ _ HD2.out.k6 (fun hHeld5 => ?_)
                    clear hK K hHeld4
                    try simp only [Act.put, List.setIfInBounds_toArray, List.set_cons_zero, List.set_cons_succ]
                    refine wpAnyA_one (i := 6) (o := { dst := some 147, op := Op.convert 23 9 (Operand.tmp 146), type := 9, pos := "ref.go:299", after := #[{ on := 5, ground := Ground.data }], guard := none }) (by kernel_rfl) rfl (fun K hK => ?_)
                    rw [if_pos (by rfl)]
                    simp [go_sem, kc5]
                    refine hK.out _ _ HD2.out.k6 (fun hHeld6 => ?_)
                    clear hK K hHeld5
                    try simp only [Act.put, List.setIfInBounds_toArray, List.set_cons_zero, List.set_cons_succ]
                    refine wpAnyA_one (i := 7) (o := { dst := some 148, op := Op.buildSlice 46 1 #[(0, Operand.tmp 147)], type := 46, pos := "ref.go:299", after := #[{ on := 6, ground := Ground.data }], guard := none }) (by kernel_rfl) rfl (fun K hK => ?_)
                    rw [if_pos (by rfl)]
                    refine wp_buildSlice 46 9 1 _ rfl #[.string t5] iS _ Try.underlying46 hiS zS0 (by rw [zS1]; decide) (by rw [zS1]; decide) (by rw [zS1]; kernel_rfl) ?_
                    refine hK.out _ _ (HD2.out.al _).k6 (fun hHeld7 => ?_)
                    clear hK K hHeld6
                    try simp only [Act.put, List.setIfInBounds_toArray, List.set_cons_zero, List.set_cons_succ]
                    refine wpAnyA_one (i := 8) (o := { dst := some 149, op := Op.call { callee := Callee.builtin Builtin.append, args := #[Operand.tmp 142, Operand.tmp 148], argTypes := #[46, 46] }, type := 46, pos := "ref.go:299", after := #[{ on := 1, ground := Ground.data }, { on := 7, ground := Ground.data }, { on := 5, ground := Ground.chain }], guard := none }) (by kernel_rfl) rfl (fun K hK => ?_)
                    refine step_append_lies _ (by rfl) _ _ 46 (by rfl) w9.heap.size 9 iS _ 1 16 Try.underlying46 hiS zS0 zS1 zS2 rfl (by decide) _ j ys (by rfl) (HOWe.out.alloc _) ⟨we.heap.size, 0, none⟩ 1 1 [.string t5] (by rfl) rfl (hcell1 we _ _) (by intro u hu; simp at hu; subst hu; rfl) (by decide) (by have := HJL.out; have := HN9.out; unfold maxLen; omega) (by have := HJL.out; have := HN9.out; omega) (by have := HFe.out.size; have := HSZ.out; have e0 : wr.drew.heap.size = wr.heap.size := rfl; simp; omega) (we.heap.size + 1) (by simp) ?_
                    intro gz capz wz hownz hgrowz hatz _
                    have HEz := hide (pap_post (W := we) (HST.2.out.drew.trans HFe.out (fun _ _ e => e)) HD2.out HR5x.out (fun k hk => Nat.le_trans HLO9.out (HOW.out.lt k hk).1) hgrowz HSP.out (by have := HRB.out; have := HSP.out; omega))
                    have HOWz := hide hownz
                    have HKZ : Hid (Kb (wb.heap.size + 1) w9 wz) := hide (kb_app HKI.out HFe.out hgrowz (fun k hk => (HOW.out.lt k hk).1) (by have := HRB.out; have := HSP.out; omega))
                    clear hownz hgrowz hatz
                    refine hK.out _ _ HEz.out.2.1.k6 (fun hHeld8 => ?_)
                    clear hK K hHeld7
                    try simp only [Act.put, List.setIfInBounds_toArray, List.set_cons_zero, List.set_cons_succ]
                    refine wpAnyA_take (fun k => k == 10) (i := 9) (oi := { dst := some 150, op := Op.fieldAddr 48 (Operand.tmp 9) 6, type := 0, pos := "ref.go:299", after := #[{ on := 0, ground := Ground.phase }, { on := 1, ground := Ground.phase }, { on := 2, ground := Ground.phase }, { on := 3, ground := Ground.phase }, { on := 4, ground := Ground.phase }, { on := 5, ground := Ground.phase }, { on := 6, ground := Ground.phase }, { on := 7, ground := Ground.phase }, { on := 8, ground := Ground.phase }], guard := none }) (v := ?_) rfl (by kernel_rfl) (by kernel_rfl) (by kernel_rfl) (by kernel_rfl) (by kernel_rfl) (fun _ _ _ h => h) (Or.inl ⟨by rfl, ?_⟩) (by assumption) ?_; rotate_left; · (intro w hSw; (try dsimp only at hSw); go_simp; (try with_reducible rfl)); try simp only [Act.put, List.setIfInBounds_toArray, List.set_cons_zero, List.set_cons_succ]
                    refine wpAnyA_oneB (i := 10) (o := { dst := none, op := Op.store 46 (Operand.tmp 150) (Operand.tmp 149), type := 0, pos := "ref.go:299", after := #[{ on := 9, ground := Ground.data }, { on := 8, ground := Ground.data }, { on := 8, ground := Ground.chain }, { on := 0, ground := Ground.phase }, { on := 1, ground := Ground.phase }, { on := 2, ground := Ground.phase }, { on := 3, ground := Ground.phase }, { on := 4, ground := Ground.phase }, { on := 5, ground := Ground.phase }, { on := 6, ground := Ground.phase }, { on := 7, ground := Ground.phase }, { on := 8, ground := Ground.phase }], guard := none }) (by kernel_rfl) rfl (by rfl) (fun K hK => ?_)
                    rw [if_pos (by rfl)]
                    simp [go_sem, HEz.out.2.1.fz 6, HEz.out.2.1.k6]
                    refine hK.out _ _ ?_
                    clear hK K
                    try simp only [Act.put, List.setIfInBounds_toArray, List.set_cons_zero, List.set_cons_succ]
                    refine wpAnyA_done (by kernel_rfl) ?_ _
                    go_wp2_with fail
                    refine ⟨⟨j + 1, zs ++ [t5], _, _, _, ost Y1, Nat.succ_le_of_lt HJL.out, by go_num, HEz.out.1.setCell (g := wb.heap.size) (fun e => by have := HRB.out; have := HSP.out; omega) 6 _, (HKZ.out.trans (Kb.set _ (Nat.lt_succ_self _) _ _)), HEz.out.2.1.s6 _, HEz.out.2.2.setO (by have := HRB.out; have := HSP.out; omega), own_set HOWz.out (by have := HLO9.out; omega), fun x hx => ⟨by simp [HZL.out], by rw [HYS.out]; simp [cN]⟩, HNX.out t5 HV5x.out⟩, by have := HJL.out; simp [intOf]; omega⟩
                · have hjI : ¬ ((j : Int) < (n9 : Int)) := by omega
                  have HC := hide (show _ ∧ _ from ⟨hF, hP⟩)
                  have hX1 : X10 = moreP zs (og (rdRow rdTxt 0) o) := by rw [hX, show n9 - j = 0 by omega]
                  have HC2 : Hid (RfO w wr w.heap.size (ost X10)) := by
                    unfold Hid
                    rw [hX1]
                    cases o with
                    | none => exact hR
                    | some x =>
                      obtain ⟨l', q'⟩ := x
                      rw [row_og0]
                      exact hR
                  have HC3 : Hid (∀ ns m q, X10 = some (ns, m, q) → ns.length = j ∧ NameL wr ao cap ns ∧ AQ (fun b => wb.heap.size + 1 ≤ b) ao ns.length) := by
                    intro ns m q e
                    rw [hX1] at e
                    cases o with
                    | none => cases e
                    | some x =>
                      obtain ⟨l', q'⟩ := x
                      rw [row_og0] at e
                      cases e
                      obtain ⟨hl1, hl2⟩ := hg _ rfl
                      obtain ⟨ao', cap', e1, e2, e3, e4⟩ := own_shape hO
                      cases e1
                      have hlo9 := HLO9.out
                      refine ⟨hl1, nameL_of (B := wb.heap.size + 1) (by omega) e3 ?_⟩
                      rw [hl1, ← hl2]
                      rcases e4 with e4 | ⟨g, h1, h2, h3, h4⟩
                      · exact .inl e4
                      · exact .inr ⟨g, h1, by omega, h3, h4⟩
                  clear hF hP hR hO hg hX hX1 hKb
                  go_wp2_with fail
                  go_meet
                  exact ⟨ao, cap, j, hide HC.out.1, hide HC.out.2, HC2, HKI, HC3⟩
            case rest =>
              obtain ⟨an, cn, jn, HFn, HPn, HRn, HKn, HCn⟩ := hcut
              obtain ⟨wm, rfl⟩ : ∃ x, x = wc := ⟨wc, rfl⟩
              clear HR9 HP9 HF9 HRk HPk HFk
              have p0 := HPn.out.k0
              have p1 := HPn.out.k1
              have p2 := HPn.out.k2
              have p3 := HPn.out.k3
              have p4 := HPn.out.k4
              have p5 := HPn.out.k5
              have p6 := HPn.out.k6
              have HNB : Hid (n ≤ 1099511627776 ∧ i < n) := ⟨hnb, hil⟩
              go_wp2_with (at_builtin; refine wpList_append_lies _ rfl _ _ 22 rfl (w.heap.size + 1) 48 iP _ 7 112 Try.underlying22 hiP zP0 zP1 zP2 rfl (by decide) _ i xs rfl ((own_fr HW0.out.2.1 HFn.out (Nat.lt_succ_self _)).alloc _) ⟨wm.heap.size, 0, none⟩ 1 1 [.string t2, .int .i64 (m3 : Int), .int .i64 (m5 : Int), .bool b4, .slice aoc jc capc, .slice ak jk ck, .slice an jn cn] rfl rfl (hcells7 wm _ _ _ _ _ _ _ _) (by intro u hu; simp at hu; rcases hu with rfl | rfl | rfl | rfl | rfl | rfl | rfl <;> rfl) (by decide) (by have := HNB.out; unfold maxLen; omega) (by have := HNB.out; omega) (by have := HPn.out.lt; have := HSP.out; have := HRB.out; simp; omega) (wm.heap.size + 1) (by simp) ?_; intro gy capy wy howny hgrowy haty _; have HOWy := hide howny; have HGy := hide hgrowy; have HATy := hide haty; clear howny hgrowy haty)
              obtain ⟨s1, s2⟩ := pro_step (n := n) (lo := w.heap.size + 1) HE.out.1 HE.out.2.1 HE.out.2.2.1 HE.out.2.2.2.1 HE.out.2.2.2.2 HX6.out HE7.out HX8.out HE9x.out HX10.out HV2.out HV3.out HV4.out HV5.out HV6.out HV7.out HV9.out (hlo := by have := HSP.out; omega) (h7 := Kb.of_fr HX7.out (by have := HRB.out; have := HSP.out; omega)) HKk.out (h9 := Kb.of_fr HX9.out (by have := HRB.out; have := HSP.out; omega)) HKn.out HCc.out HCk.out HCn.out HW0.out.2.2.2.1 HW0.out.2.2.1 (by have := HRB.out; omega) HFn.out.size (fun b hb hl => HFn.out.block b hb (by show b ≠ w.heap.size; omega)) HOWy.out HGy.out HATy.out HW0.out.2.2.2.2
              refine ⟨⟨i + 1, nI I (lrPro h mm q), _, _, _, ost X10, hil, by go_num, by go_num, ((HW0.out.1.trans HFn.out (fun _ _ e => e)).alloc _).gr HGy.out (fun k hk => (HW0.out.2.1.lt k hk).1) (by simp), (HRn.out.mono (up_alloc _ _)).gr HGy.out (fun k hk => (HW0.out.2.1.lt k hk).1) (Nat.lt_succ_self _), HOWy.out, fun x hx => ⟨hnb, s1 x hx⟩, s2⟩, by have := hil; simp [intOf]; omega⟩

    · have e : i = n := by omega
      have hIn : ¬ ((i : Int) < (n : Int)) := by omega
      have HFF : Hid (Fr (fun _ => False) w wo) := HFA.out.trans hF (fun x hx e => absurd hx (by rw [show x = w.heap.size from e]; exact Nat.lt_irrefl _))
      cases o with
      | none =>
        have b9 : wo.cell? ⟨w.heap.size, 1, none⟩ = some (.bool true) := hR.k1
        have hO2 : out = none := by rw [HFIN.out, hX]; rfl
        have HO2 := hide hO2
        clear hF hR hO hg hX hO2 e
        go_wp2_with fail
        go_returns
        exact ⟨HFF.out, by rw [HO2.out]; rfl⟩
      | some x =>
        obtain ⟨m', q'⟩ := x
        obtain ⟨hnb, hIl, hL⟩ := hg _ rfl
        have b9 : wo.cell? ⟨w.heap.size, 1, none⟩ = some (.bool false) := hR.k1
        have hmo : mo = some (I, m', q') := by rw [hX, show n - i = 0 by omega]; exact rowP_og0
        obtain ⟨⟨-, -, v0, ⟨ao0, cap0, rfl, -⟩, hAt⟩, -⟩ := hR
        have b0 := hAt.c0
        have HROW : Hid (RowD wo (PCell wo) (.slice ao i cap) I) := hL.fin
        obtain ⟨L, eL⟩ : ∃ L, L = m'.length := ⟨_, rfl⟩
        rw [← eL] at b0
        have HEL := hide eL
        have HMM := hide hmo
        clear hF hO hg hX e hmo hAt hL hIl hnb eL
        by_cases hz : L = 0
        · subst hz
          have hm' : m' = [] := List.eq_nil_of_length_eq_zero HEL.out.symm
          have hO2 : out = some I := by rw [HFIN.out, HMM.out, hm']; rfl
          have HO2 := hide hO2
          have KR := hide (HRI.out wo I _ hO2 HROW.out)
          clear hO2 hm'
          cases hmw : mayW I with
          | true =>
            rw [hmw] at KR
            have HMW := hide hmw
            clear hmw
            go_wp2_with (go_at_call 21; refine KR.out.mono ?_; rintro e8 w8 ⟨rfl, F8⟩; have HF8 := hide F8; clear F8)
            go_returns
            refine ⟨HFF.out.trans HF8.out (fun _ _ e => e), ?_⟩
            rw [HO2.out]
            show (if mayW I = true then _ else _)
            rw [if_pos HMW.out]
            obtain ⟨ao', cap', e', h1, h2, h3⟩ := id HROW.out
            cases e'
            exact ⟨_, _, rfl, HROW.out.up HF8.out.upw' (fun _ _ h => h.up HF8.out.upw')⟩
          | false =>
            rw [hmw] at KR
            have HMW := hide hmw
            clear hmw
            go_wp2_with (go_at_call 21; refine KR.out.mono ?_; rintro e8 w8 ⟨rfl, F8⟩; have HF8 := hide F8; clear F8)
            go_returns
            refine ⟨HFF.out.trans HF8.out (fun _ _ e => e), ?_⟩
            rw [HO2.out]
            show (if mayW I = true then _ else _)
            rw [if_neg (by rw [HMW.out]; decide)]
            rfl
        · have hp : (L : Int) > 0 := by omega
          have hO2 : out = none := by
            rw [HFIN.out, HMM.out]
            exact if_neg (fun e => hz (by rw [HEL.out, e]; rfl))
          have HO2 := hide hO2
          clear hO2 hz
          go_wp2_with fail
          go_returns
          exact ⟨HFF.out, by rw [HO2.out]; rfl⟩

end Go.Proofs.Ytilcigjhogcjkaa
