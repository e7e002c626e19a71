/-
  What is proved here: the document's own bytes of any datum that may be written (tandemref10.datum).
-/
import Derived.Test.YtilcigjhogcjkaaRPDat2
namespace Go.Proofs.Ytilcigjhogcjkaa
open Go Go.RowKit

set_option maxRecDepth 100000 in
set_option maxHeartbeats 2000000 in
theorem rdatum_1 {h : Nat} (_hC : RDOK h) (w0 w : World) (n : Int) (b : Bool) (L : List Nat) (t : ByteArray) (I R : List (Tr h)) (a1 a2 a3 : Option Addr) (p1 p2 p3 dp : Nat) (hM : Sl .u32 w0 (.slice a1 L.length p1) L.length (fun i => L.getD i 0)) (hlim : ∀ i, i < L.length → L.getD i 0 < 4294967296) (_hI : RowD w0 (DatC w0 h) (.slice a2 I.length p2) I) (_hR : RowD w0 (DatC w0 h) (.slice a3 R.length p3) R) (_hR1 : R.length ≤ 1) (hU : Up w0 w) (_hn : -549755813888 ≤ n ∧ n ≤ 549755813888) (_hgI : I.all (goodD h dp) = true) (_hgR : R.all (goodD h dp) = true) (hl : (datB (h + 1) (1, n, b, L, t, I, R)).length ≤ 900000000) :
    Calls Try.prog 26 #[.agg #[.int .i64 1, .int .i64 n, .bool b, .slice a1 L.length p1, .string t, .slice a2 I.length p2, .slice a3 R.length p3]] w fun e w' => BEnd w (datB (h + 1) (1, n, b, L, t, I, R)) e w' := by
  have hE : datB (h + 1) (1, n, b, L, t, I, R) = ((numB 1 ++ flgB b) ++ numB L.length) ++ L.flatMap numB := by
    simp [datB, List.append_assoc]
  rw [hE] at hl ⊢
  clear hE
  have HK0 := hide (fun (W : World) => show Calls Try.prog 22 #[.int .i64 1] W fun e w' => BEnd W (numB 1) e w' from rnum_any 1 W (by omega))
  obtain ⟨ao', cap', e, hc1, hc2, hc3, hrd⟩ := hM
  cases e
  obtain ⟨T, hT⟩ : ∃ T, T = ((numB 1 ++ flgB b) ++ numB L.length) ++ L.flatMap numB := ⟨_, rfl⟩
  rw [← hT] at hl ⊢
  obtain ⟨l0, hl0⟩ : ∃ l, l = numB 1 := ⟨_, rfl⟩
  rw [← hl0] at hT HK0
  obtain ⟨x, hx1, hx2⟩ : ∃ x : Nat, (if b then (1 : Int) else 0) = (x : Int) ∧ flgB b = [x] := by
    cases b
    · exact ⟨0, rfl, rfl⟩
    · exact ⟨1, rfl, rfl⟩
  have HKB := hide (fun (W : World) => show Calls Try.prog 24 #[.bool b] W fun e w' => e = .returned (.int .u8 (x : Int)) ∧ w' = W by rw [← hx1]; exact rbit_any b W)
  obtain ⟨l1, hl1⟩ : ∃ l, l = l0 ++ [x] := ⟨_, rfl⟩
  rw [hx2, ← hl1] at hT
  obtain ⟨m2, hm2⟩ : ∃ l, l = numB L.length := ⟨_, rfl⟩
  have hp2 : 0 < m2.length := by rw [hm2]; exact numB_pos _
  have HK2 := hide (fun (W : World) => show Calls Try.prog 22 #[.int .i64 (L.length : Int)] W fun e w' => BEnd W m2 e w' by rw [hm2]; exact rnum_any L.length W (by omega))
  obtain ⟨l2, hl2⟩ : ∃ l, l = l1 ++ m2 := ⟨_, rfl⟩
  rw [← hm2, ← hl2] at hT
  have hTl : l2.length + (L.flatMap numB).length ≤ 900000000 := by rw [hT, List.length_append] at hl; exact hl
  have x2 : l1.length + m2.length = l2.length := by rw [hl2, List.length_append]
  have x1 : l0.length + 1 = l1.length := by rw [hl1, List.length_append]; rfl
  have HL1 := hide hl1
  have HL2 := hide hl2
  have HT := hide hT
  have HU := hide hU
  have HRD := hide hrd
  have HD : Hid (DBx (w.alloc (.cells #[.int .i64 1, .int .i64 n, .bool b, .slice a1 L.length p1, .string t, .slice a2 I.length p2, .slice a3 R.length p3] 64)) w.heap.size (.int .i64 1) (.int .i64 n) (.bool b) (.slice a1 L.length p1) (.string t) (.slice a2 I.length p2) (.slice a3 R.length p3)) := hide (heap_alloc_new w _)
  clear _hI _hR hU _hgI _hgR _hC hl0 hx1 hx2 hl1 hm2 hl2 hT hl hrd
  go_enter Try.func26, Try.ntmps26
  go_wp2_with (first
    | (go_at_call_of 22 (Value.int IntKind.i64 1); refine (HK0.out _).mono ?_; rintro e0 w0x ⟨ar0, cr0, rfl, hb0, F0⟩; have d0 := HD.out.fr F0; have y00 := d0.k0; have y01 := d0.k1; have y02 := d0.k2; have y03 := d0.k3; have y04 := d0.k4; have y05 := d0.k5; have y06 := d0.k6; have HB0 := hide (hb0.mono (by simp : w.heap.size ≤ _)); have HF0 := hide (Fr.trans (S := fun _ => False) ((Fr.refl _ w).alloc _) F0 (fun _ _ e => e)); have HD0 := hide d0; have hz0 : w.heap.size ≤ w0x.heap.size := HF0.out.size; clear hb0 F0 d0)
    | (go_at_call 24; refine (HKB.out _).mono ?_; rintro eb wb ⟨rfl, rfl⟩)
    | (at_builtin; refine wpList_appC rfl _ _ rfl w.heap.size _ l0 rfl (HB0.out.fr ((Fr.refl _ _).alloc _)) _ _ [x] rfl (ByAt.one _ x) (Nat.succ_pos _) (by simp; omega) (by simp; omega) l1 HL1.out ?_; intro ar1 cr1 w1x hb1 F1; have d1 := (HD0.out.fr ((Fr.refl _ _).alloc (.cells #[.int .u8 (x : Int)] 5))).upB F1; have y10 := d1.k0; have y11 := d1.k1; have y12 := d1.k2; have y13 := d1.k3; have y14 := d1.k4; have y15 := d1.k5; have y16 := d1.k6; have HB1 := hide hb1; have HF1 := hide (fw_new F1 (HF0.out.alloc _)); have HD1 := hide d1; have hz1 : w.heap.size ≤ w1x.heap.size := HF1.out.size; clear hb1 F1 d1)
    | (go_at_call_of 22 (Value.int IntKind.i64 (L.length : Int)); refine (HK2.out _).mono ?_; rintro e2 v2x ⟨b2, g2, rfl, hv2, G2⟩; have HV2 := hide hv2; have HC2 := hide (HB1.out.fr G2); have d2 := HD1.out.fr G2; have yc20 := d2.k0; have yc21 := d2.k1; have yc22 := d2.k2; have yc23 := d2.k3; have yc24 := d2.k4; have yc25 := d2.k5; have yc26 := d2.k6; have HE2 := hide d2; have HG2 := hide (HF1.out.trans G2 (fun _ _ e => e)); have hy2 : w.heap.size ≤ v2x.heap.size := HG2.out.size; clear hv2 G2 d2)
    | (at_builtin; refine wpList_appC rfl _ _ rfl w.heap.size _ l1 rfl HC2.out _ _ m2 rfl HV2.out hp2 (by omega) hy2 l2 HL2.out ?_; intro ar2 cr2 w2x hb2 F2; have d2 := HE2.out.upB F2; have y20 := d2.k0; have y21 := d2.k1; have y22 := d2.k2; have y23 := d2.k3; have y24 := d2.k4; have y25 := d2.k5; have y26 := d2.k6; have HB2 := hide hb2; have HF2 := hide (fw_new F2 HG2.out); have HD2 := hide d2; have hz2 : w.heap.size ≤ w2x.heap.size := HF2.out.size; clear hb2 F2 d2))
  go_loopw [3, 4] (fun bv u wr => ∃ (i : Nat) (a : Option Addr) (c : Nat), u = .int .i64 (i : Int) ∧ i ≤ L.length ∧ bv = .slice a (l2 ++ (L.take i).flatMap numB).length c ∧ ByAt wr w.heap.size (.slice a (l2 ++ (L.take i).flatMap numB).length c) (l2 ++ (L.take i).flatMap numB) ∧ Fr (fun _ => False) w wr ∧ DBx wr w.heap.size (.int .i64 1) (.int .i64 n) (.bool b) (.slice a1 L.length p1) (.string t) (.slice a2 I.length p2) (.slice a3 R.length p3)) (fun _ u _ => L.length - (intOf u).toNat)
  case atStart => exact ⟨0, ar2, cr2, rfl, Nat.zero_le _, by simp, by simpa using HB2.out, HF2.out, HD2.out⟩
  case round =>
    obtain ⟨i, ai, ci, rfl, hi, rfl, hB, hF, hD⟩ := hrel
    have y3 := hD.k3
    have y0 := hD.k0
    by_cases hil : i < L.length
    · obtain ⟨g, off, ea, hc⟩ : ∃ g off, a1 = some ⟨g, off, none⟩ ∧ wr.cell? ⟨g, off + i, none⟩ = some (.int .u32 ((L.getD i 0 : Nat) : Int)) := by
        rcases HRD.out with e | ⟨g, off, ea, hc⟩
        · omega
        · have h0 := hc i hil
          exact ⟨g, off, ea, (World.cell?_of_block ((up_new HU.out hF).block g (World.block_lt_of_cell? w0 _ h0))).trans h0⟩
      subst ea
      have hxl := hlim i hil
      have hge : L.getD i 0 = L[i] := by simp [List.getD_eq_getElem?_getD, hil]
      have hft := flat_take_le numB L (i + 1)
      rw [flat_take_succ numB L i hil, List.length_append] at hft
      obtain ⟨li, hli⟩ : ∃ l, l = l2 ++ (L.take i).flatMap numB := ⟨_, rfl⟩
      obtain ⟨mi, hmi⟩ : ∃ l, l = numB L[i] := ⟨_, rfl⟩
      obtain ⟨lj, hlj⟩ : ∃ l, l = l2 ++ (L.take (i + 1)).flatMap numB := ⟨_, rfl⟩
      have hjj : lj = li ++ mi := by rw [hlj, hli, hmi, flat_take_succ numB L i hil, List.append_assoc]
      have hpi : 0 < mi.length := by rw [hmi]; exact numB_pos _
      have hbi : li.length + mi.length ≤ 900000000 := by rw [hli, hmi, List.length_append]; omega
      rw [← hli] at hB ⊢
      have HKD := hide (fun (W : World) => show Calls Try.prog 22 #[.int .i64 ((L.getD i 0 : Nat) : Int)] W fun e w' => BEnd W mi e w' by rw [hmi, ← hge]; exact rnum_any (L.getD i 0) W (by omega))
      have HJ := hide hjj
      have HLJ := hide hlj
      have HBi := hide hB
      have HFi := hide hF
      have HDi := hide hD
      have hzi : w.heap.size ≤ wr.heap.size := hF.size
      have hkI : (i : Int) < (L.length : Int) := by omega
      clear hB hF hD hft hjj hlj hli hmi hge
      generalize L.getD i 0 = xl at *
      go_wp2_with (first
        | (go_at_call 22; refine (HKD.out _).mono ?_; rintro e9 x9 ⟨b9, g9, rfl, hv9, G9⟩; have HV9 := hide hv9; have HC9 := hide (HBi.out.fr G9); have HE9 := hide (HDi.out.fr G9); have HG9 := hide (HFi.out.trans G9 (fun _ _ e => e)); have hy9 : w.heap.size ≤ x9.heap.size := HG9.out.size; clear hv9 G9)
        | (at_builtin; refine wpList_appC rfl _ _ rfl w.heap.size _ li rfl HC9.out _ _ mi rfl HV9.out hpi (by omega) hy9 lj HJ.out ?_; intro a10 c10 w10 hb10 F10; have HB10 := hide hb10; have HF10 := hide (fw_new F10 HG9.out); have HD10 := hide (HE9.out.upB F10); clear hb10 F10))
      exact ⟨⟨i + 1, a10, c10, by go_num, hil, by rw [HLJ.out], by rw [← HLJ.out]; exact HB10.out, HF10.out, HD10.out⟩, by simp [intOf]; omega⟩
    · have e : i = L.length := by omega
      subst e
      rw [List.take_length, ← HT.out] at hB ⊢
      have HBE1 := hide hB
      have HFE1 := hide hF
      have hil' : ¬ ((L.length : Int) < (L.length : Int)) := by omega
      clear hB hF hD hil
      go_wp2
      go_ret
      exact ⟨ai, ci, rfl, HBE1.out, HFE1.out⟩

theorem restF_le {h : Nat} {k : Int} {n : Nat} {R : List (Tr h)} (hf : restF k n R = true) : R.length ≤ 1 := by
  match R, hf with
  | [], _ => simp
  | [_], _ => simp
theorem rdatum_of {h : Nat} (hC : RDOK h) : RDOK (h + 1) := by
  intro w0 w d c0 c1 c2 c3 c4 c5 c6 dp hd hU hg hl
  obtain ⟨k, n, b, L, t, I, R⟩ := d
  obtain ⟨um, ui, ur, e, -, hM, hlim, hI, hR⟩ := hd
  obtain ⟨a1, p1, rfl, r1⟩ := hM
  obtain ⟨a2, p2, rfl⟩ := hI.shape
  obtain ⟨a3, p3, rfl⟩ := hR.shape
  cases e
  cases dp with
  | zero => cases hg
  | succ dp =>
    simp only [goodD, Bool.and_eq_true] at hg
    obtain ⟨hf, hgI, hgR⟩ := hg
    simp only [fit1, Bool.and_eq_true, decide_eq_true_eq] at hf
    have hn := half_le hf.2.1.1
    have hk1 := hf.1.1
    have hk2 := hf.1.2
    have hR1 := restF_le hf.2.2.2
    have hM' : Sl .u32 w0 (.slice a1 L.length p1) L.length (fun i => L.getD i 0) := ⟨a1, p1, rfl, r1⟩
    have hk : k = 1 ∨ k = 2 ∨ k = 3 ∨ k = 4 ∨ k = 5 ∨ k = 6 ∨ k = 7 ∨ k = 8 ∨ k = 9 := by omega
    clear hf hk1 hk2
    rcases hk with rfl | rfl | rfl | rfl | rfl | rfl | rfl | rfl | rfl
    · exact rdatum_1 hC w0 w n b L t I R a1 a2 a3 p1 p2 p3 dp hM' hlim hI hR hR1 hU hn hgI hgR hl
    · exact rdatum_2 hC w0 w n b L t I R a1 a2 a3 p1 p2 p3 dp hM' hlim hI hR hR1 hU hn hgI hgR hl
    · exact rdatum_3 hC w0 w n b L t I R a1 a2 a3 p1 p2 p3 dp hM' hlim hI hR hR1 hU hn hgI hgR hl
    · exact rdatum_4 hC w0 w n b L t I R a1 a2 a3 p1 p2 p3 dp hM' hlim hI hR hR1 hU hn hgI hgR hl
    · exact rdatum_5 hC w0 w n b L t I R a1 a2 a3 p1 p2 p3 dp hM' hlim hI hR hR1 hU hn hgI hgR hl
    · exact rdatum_6 hC w0 w n b L t I R a1 a2 a3 p1 p2 p3 dp hM' hlim hI hR hR1 hU hn hgI hgR hl
    · exact rdatum_7 hC w0 w n b L t I R a1 a2 a3 p1 p2 p3 dp hM' hlim hI hR hR1 hU hn hgI hgR hl
    · exact rdatum_8 hC w0 w n b L t I R a1 a2 a3 p1 p2 p3 dp hM' hlim hI hR hR1 hU hn hgI hgR hl
    · exact rdatum_9 hC w0 w n b L t I R a1 a2 a3 p1 p2 p3 dp hM' hlim hI hR hR1 hU hn hgI hgR hl
theorem rdatum_all : (h : Nat) → RDOK h
  | 0 => fun _ _ _ _ _ _ _ _ _ _ _ hd => hd.elim
  | h + 1 => rdatum_of (rdatum_all h)

end Go.Proofs.Ytilcigjhogcjkaa
