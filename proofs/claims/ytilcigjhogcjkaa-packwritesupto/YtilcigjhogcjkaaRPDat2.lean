/-
  What is proved here: the document's own bytes of lists, vectors and numbers (tandemref10.datum).
-/
import Derived.Test.YtilcigjhogcjkaaRPDat
namespace Go.Proofs.Ytilcigjhogcjkaa
open Go Go.RowKit

theorem datB_pos' : (h : Nat) → (d : Tr h) → 0 < (datB h d).length
  | 0, d => (show Empty from d).elim
  | h + 1, d => datB_pos h d
theorem flat_one {α : Type} (f : α → List Nat) (L : List α) (i : Nat) (hi : i < L.length) : (f L[i]).length ≤ (L.flatMap f).length := by
  have h1 := flat_take_le f L (i + 1)
  rw [flat_take_succ f L i hi, List.length_append] at h1
  omega
theorem flg_num {α : Type} (R : List α) (h : R.length ≤ 1) : flgB (!R.isEmpty) = numB R.length := by
  match R, h with
  | [], _ => rfl
  | [_], _ => rfl

set_option maxRecDepth 100000 in
set_option maxHeartbeats 2000000 in
theorem rdatum_7 {h : Nat} (hC : RDOK h) (w0 w : World) (n : Int) (b : Bool) (L : List Nat) (t : ByteArray) (I R : List (Tr h)) (a1 a2 a3 : Option Addr) (p1 p2 p3 dp : Nat) (_hM : Sl .u32 w0 (.slice a1 L.length p1) L.length (fun i => L.getD i 0)) (_hlim : ∀ i, i < L.length → L.getD i 0 < 4294967296) (hI : RowD w0 (DatC w0 h) (.slice a2 I.length p2) I) (_hR : RowD w0 (DatC w0 h) (.slice a3 R.length p3) R) (_hR1 : R.length ≤ 1) (hU : Up w0 w) (_hn : -549755813888 ≤ n ∧ n ≤ 549755813888) (hgI : I.all (goodD h dp) = true) (_hgR : R.all (goodD h dp) = true) (hl : (datB (h + 1) (7, n, b, L, t, I, R)).length ≤ 900000000) :
    Calls Try.prog 26 #[.agg #[.int .i64 7, .int .i64 n, .bool b, .slice a1 L.length p1, .string t, .slice a2 I.length p2, .slice a3 R.length p3]] w fun e w' => BEnd w (datB (h + 1) (7, n, b, L, t, I, R)) e w' := by
  have hE : datB (h + 1) (7, n, b, L, t, I, R) = (numB 7 ++ numB I.length) ++ I.flatMap (datB h) := by
    simp [datB, List.append_assoc]
  rw [hE] at hl ⊢
  clear hE
  have HK0 := hide (fun (W : World) => show Calls Try.prog 22 #[.int .i64 7] W fun e w' => BEnd W (numB 7) e w' from rnum_any 7 W (by omega))
  obtain ⟨T, hT⟩ : ∃ T, T = (numB 7 ++ numB I.length) ++ I.flatMap (datB h) := ⟨_, rfl⟩
  rw [← hT] at hl ⊢
  obtain ⟨l0, hl0⟩ : ∃ l, l = numB 7 := ⟨_, rfl⟩
  rw [← hl0] at hT HK0
  have hcap : I.length ≤ p2 ∧ p2 ≤ 9223372036854775807 := by
    obtain ⟨ao', cap', e, q1, q2, -⟩ := hI
    cases e
    exact ⟨q1, q2⟩
  obtain ⟨m1, hm1⟩ : ∃ l, l = numB I.length := ⟨_, rfl⟩
  have hp1 : 0 < m1.length := by rw [hm1]; exact numB_pos _
  have HK1 := hide (fun (W : World) => show Calls Try.prog 22 #[.int .i64 (I.length : Int)] W fun e w' => BEnd W m1 e w' by rw [hm1]; exact rnum_any I.length W (by omega))
  obtain ⟨l1, hl1⟩ : ∃ l, l = l0 ++ m1 := ⟨_, rfl⟩
  rw [← hm1, ← hl1] at hT
  have hTl : l1.length + (I.flatMap (datB h)).length ≤ 900000000 := by rw [hT, List.length_append] at hl; exact hl
  have x1 : l0.length + m1.length = l1.length := by rw [hl1, List.length_append]
  have HL1 := hide hl1
  have HT := hide hT
  have HU := hide hU
  have HRI := hide hI
  have HGI := hide hgI
  have HC := hide hC
  have HD : Hid (DBx (w.alloc (.cells #[.int .i64 7, .int .i64 n, .bool b, .slice a1 L.length p1, .string t, .slice a2 I.length p2, .slice a3 R.length p3] 64)) w.heap.size (.int .i64 7) (.int .i64 n) (.bool b) (.slice a1 L.length p1) (.string t) (.slice a2 I.length p2) (.slice a3 R.length p3)) := hide (heap_alloc_new w _)
  clear _hM _hlim hI _hR hU hgI _hgR hC hl0 hm1 hl1 hT hl
  go_enter Try.func26, Try.ntmps26
  go_wp2_with (first
    | (go_at_call_of 22 (Value.int IntKind.i64 7); refine (HK0.out _).mono ?_; rintro e0 w0x ⟨ar0, cr0, rfl, hb0, F0⟩; have d0 := HD.out.fr F0; have y00 := d0.k0; have y01 := d0.k1; have y02 := d0.k2; have y03 := d0.k3; have y04 := d0.k4; have y05 := d0.k5; have y06 := d0.k6; have HB0 := hide (hb0.mono (by simp : w.heap.size ≤ _)); have HF0 := hide (Fr.trans (S := fun _ => False) ((Fr.refl _ w).alloc _) F0 (fun _ _ e => e)); have HD0 := hide d0; have hz0 : w.heap.size ≤ w0x.heap.size := HF0.out.size; clear hb0 F0 d0)
    | (go_at_call_of 22 (Value.int IntKind.i64 (I.length : Int)); refine (HK1.out _).mono ?_; rintro e1 v1x ⟨b1, g1, rfl, hv1, G1⟩; have HV1 := hide hv1; have HC1 := hide (HB0.out.fr G1); have d1 := HD0.out.fr G1; have yc10 := d1.k0; have yc11 := d1.k1; have yc12 := d1.k2; have yc13 := d1.k3; have yc14 := d1.k4; have yc15 := d1.k5; have yc16 := d1.k6; have HE1 := hide d1; have HG1 := hide (HF0.out.trans G1 (fun _ _ e => e)); have hy1 : w.heap.size ≤ v1x.heap.size := HG1.out.size; clear hv1 G1 d1)
    | (at_builtin; refine wpList_appC rfl _ _ rfl w.heap.size _ l0 rfl HC1.out _ _ m1 rfl HV1.out hp1 (by omega) hy1 l1 HL1.out ?_; intro ar1 cr1 w1x hb1 F1; have d1 := HE1.out.upB F1; have y10 := d1.k0; have y11 := d1.k1; have y12 := d1.k2; have y13 := d1.k3; have y14 := d1.k4; have y15 := d1.k5; have y16 := d1.k6; have HB1 := hide hb1; have HF1 := hide (fw_new F1 HG1.out); have HD1 := hide d1; have hz1 : w.heap.size ≤ w1x.heap.size := HF1.out.size; clear hb1 F1 d1))
  go_loopw [3, 5] (fun bv u wr => ∃ (i : Nat) (a : Option Addr) (c : Nat), u = .int .i64 (i : Int) ∧ i ≤ I.length ∧ bv = .slice a (l1 ++ (I.take i).flatMap (datB h)).length c ∧ ByAt wr w.heap.size (.slice a (l1 ++ (I.take i).flatMap (datB h)).length c) (l1 ++ (I.take i).flatMap (datB h)) ∧ Fr (fun _ => False) w wr ∧ DBx wr w.heap.size (.int .i64 7) (.int .i64 n) (.bool b) (.slice a1 L.length p1) (.string t) (.slice a2 I.length p2) (.slice a3 R.length p3)) (fun _ u _ => I.length - (intOf u).toNat)
  case atStart => exact ⟨0, ar1, cr1, rfl, Nat.zero_le _, by simp, by simpa using HB1.out, HF1.out, HD1.out⟩
  case round =>
    obtain ⟨i, ai, ci, rfl, hi, rfl, hB, hF, hD⟩ := hrel
    have y5 := hD.k5
    have y0 := hD.k0
    have y6 := hD.k6
    by_cases hil : i < I.length
    · obtain ⟨g, off, rfl, kk, km, kb, um, kt, ui, ur, hdat, ⟨x1, x2, x3, rfl⟩, ⟨z1, z2, z3, rfl⟩, ⟨t1, t2, t3, rfl⟩, e0, e1, e2, e3, e4, e5, e6⟩ := row_cells HRI.out (up_new HU.out hF) hil
      have hgi : goodD h dp I[i] = true := List.all_eq_true.1 HGI.out _ (List.getElem_mem hil)
      have hfo := flat_one (datB h) I i hil
      have hft := flat_take_le (datB h) I (i + 1)
      rw [flat_take_succ (datB h) I i hil, List.length_append] at hft
      obtain ⟨li, hli⟩ : ∃ l, l = (l1 ++ (I.take i).flatMap (datB h)) := ⟨_, rfl⟩
      obtain ⟨mi, hmi⟩ : ∃ l, l = datB h I[i] := ⟨_, rfl⟩
      obtain ⟨lj, hlj⟩ : ∃ l, l = (l1 ++ (I.take (i + 1)).flatMap (datB h)) := ⟨_, rfl⟩
      have hjj : lj = li ++ mi := by rw [hlj, hli, hmi, flat_take_succ (datB h) I i hil, List.append_assoc]
      have hpi : 0 < mi.length := by rw [hmi]; exact datB_pos' h _
      have hbi : li.length + mi.length ≤ 900000000 := by rw [hli, hmi, List.length_append]; omega
      rw [← hli] at hB ⊢
      have HKD := hide (fun (W : World) (hf : Fr (fun _ => False) wr W) => show Calls Try.prog 26 #[.agg #[.int .i64 kk, .int .i64 km, .bool kb, .slice x1 x2 x3, .string kt, .slice z1 z2 z3, .slice t1 t2 t3]] W fun e w' => BEnd W mi e w' by rw [hmi]; exact HC.out w0 W I[i] _ _ _ _ _ _ _ dp hdat (up_new (up_new HU.out hF) hf) hgi (by omega))
      have HJ := hide hjj
      have HLJ := hide hlj
      have HBi := hide hB
      have HFi := hide hF
      have HDi := hide hD
      have hzi : w.heap.size ≤ wr.heap.size := hF.size
      have hkI : (i : Int) < (I.length : Int) := by omega
      clear hB hF hD hdat hgi hfo hft hjj hlj hli hmi
      go_wp2_with (first
        | (go_at_call 26; refine (HKD.out _ (Fr.refl _ _)).mono ?_; rintro e9 x9 ⟨b9, g9, rfl, hv9, G9⟩; have HV9 := hide hv9; have HC9 := hide (HBi.out.fr G9); have HE9 := hide (HDi.out.fr G9); have HG9 := hide (HFi.out.trans G9 (fun _ _ e => e)); have hy9 : w.heap.size ≤ x9.heap.size := HG9.out.size; clear hv9 G9)
        | (at_builtin; refine wpList_appC rfl _ _ rfl w.heap.size _ li rfl HC9.out _ _ mi rfl HV9.out hpi (by omega) hy9 lj HJ.out ?_; intro a10 c10 w10 hb10 F10; have HB10 := hide hb10; have HF10 := hide (fw_new F10 HG9.out); have HD10 := hide (HE9.out.upB F10); clear hb10 F10))
      exact ⟨⟨i + 1, a10, c10, by go_num, hil, by rw [HLJ.out], by rw [← HLJ.out]; exact HB10.out, HF10.out, HD10.out⟩, by simp [intOf]; omega⟩
    · have e : i = I.length := by omega
      subst e
      rw [List.take_length, ← HT.out] at hB ⊢
      have HBE1 := hide hB
      have HFE1 := hide hF
      have HDE1 := hide hD
      have hil' : ¬ ((I.length : Int) < (I.length : Int)) := by omega
      clear hB hF hD hil
      go_wp2
      go_ret
      exact ⟨ai, ci, rfl, HBE1.out, HFE1.out⟩

set_option maxRecDepth 100000 in
set_option maxHeartbeats 2000000 in
theorem rdatum_6 {h : Nat} (hC : RDOK h) (w0 w : World) (n : Int) (b : Bool) (L : List Nat) (t : ByteArray) (I R : List (Tr h)) (a1 a2 a3 : Option Addr) (p1 p2 p3 dp : Nat) (_hM : Sl .u32 w0 (.slice a1 L.length p1) L.length (fun i => L.getD i 0)) (_hlim : ∀ i, i < L.length → L.getD i 0 < 4294967296) (hI : RowD w0 (DatC w0 h) (.slice a2 I.length p2) I) (hR : RowD w0 (DatC w0 h) (.slice a3 R.length p3) R) (hR1 : R.length ≤ 1) (hU : Up w0 w) (_hn : -549755813888 ≤ n ∧ n ≤ 549755813888) (hgI : I.all (goodD h dp) = true) (hgR : R.all (goodD h dp) = true) (hl : (datB (h + 1) (6, n, b, L, t, I, R)).length ≤ 900000000) :
    Calls Try.prog 26 #[.agg #[.int .i64 6, .int .i64 n, .bool b, .slice a1 L.length p1, .string t, .slice a2 I.length p2, .slice a3 R.length p3]] w fun e w' => BEnd w (datB (h + 1) (6, n, b, L, t, I, R)) e w' := by
  have hE : datB (h + 1) (6, n, b, L, t, I, R) = (((numB 6 ++ numB I.length) ++ I.flatMap (datB h)) ++ numB R.length) ++ R.flatMap (datB h) := by
    simp [datB, ← flg_num R hR1, List.append_assoc]
  rw [hE] at hl ⊢
  clear hE
  have HK0 := hide (fun (W : World) => show Calls Try.prog 22 #[.int .i64 6] W fun e w' => BEnd W (numB 6) e w' from rnum_any 6 W (by omega))
  obtain ⟨T, hT⟩ : ∃ T, T = (((numB 6 ++ numB I.length) ++ I.flatMap (datB h)) ++ numB R.length) ++ R.flatMap (datB h) := ⟨_, rfl⟩
  rw [← hT] at hl ⊢
  obtain ⟨l0, hl0⟩ : ∃ l, l = numB 6 := ⟨_, rfl⟩
  rw [← hl0] at hT HK0
  have hcap : I.length ≤ p2 ∧ p2 ≤ 9223372036854775807 := by
    obtain ⟨ao', cap', e, q1, q2, -⟩ := hI
    cases e
    exact ⟨q1, q2⟩
  have hcap3 : R.length ≤ p3 ∧ p3 ≤ 9223372036854775807 := by
    obtain ⟨ao', cap', e, q1, q2, -⟩ := hR
    cases e
    exact ⟨q1, q2⟩
  obtain ⟨m1, hm1⟩ : ∃ l, l = numB I.length := ⟨_, rfl⟩
  have hp1 : 0 < m1.length := by rw [hm1]; exact numB_pos _
  have HK1 := hide (fun (W : World) => show Calls Try.prog 22 #[.int .i64 (I.length : Int)] W fun e w' => BEnd W m1 e w' by rw [hm1]; exact rnum_any I.length W (by omega))
  obtain ⟨l1, hl1⟩ : ∃ l, l = l0 ++ m1 := ⟨_, rfl⟩
  rw [← hm1, ← hl1] at hT
  obtain ⟨q1, hq1⟩ : ∃ l, l = l1 ++ I.flatMap (datB h) := ⟨_, rfl⟩
  rw [← hq1] at hT
  obtain ⟨m2, hm2⟩ : ∃ l, l = numB R.length := ⟨_, rfl⟩
  have hp2 : 0 < m2.length := by rw [hm2]; exact numB_pos _
  have HK2 := hide (fun (W : World) => show Calls Try.prog 22 #[.int .i64 (R.length : Int)] W fun e w' => BEnd W m2 e w' by rw [hm2]; exact rnum_any R.length W (by omega))
  obtain ⟨l2, hl2⟩ : ∃ l, l = q1 ++ m2 := ⟨_, rfl⟩
  rw [← hm2, ← hl2] at hT
  have hTl2 : l2.length + (R.flatMap (datB h)).length ≤ 900000000 := by rw [hT, List.length_append] at hl; exact hl
  have x2 : q1.length + m2.length = l2.length := by rw [hl2, List.length_append]
  have x3 : l1.length + (I.flatMap (datB h)).length = q1.length := by rw [hq1, List.length_append]
  have x1 : l0.length + m1.length = l1.length := by rw [hl1, List.length_append]
  have HL1 := hide hl1
  have HL2 := hide hl2
  have HQ1 := hide hq1
  have HT := hide hT
  have HU := hide hU
  have HRI := hide hI
  have HRR := hide hR
  have HGI := hide hgI
  have HGR := hide hgR
  have HC := hide hC
  have HD : Hid (DBx (w.alloc (.cells #[.int .i64 6, .int .i64 n, .bool b, .slice a1 L.length p1, .string t, .slice a2 I.length p2, .slice a3 R.length p3] 64)) w.heap.size (.int .i64 6) (.int .i64 n) (.bool b) (.slice a1 L.length p1) (.string t) (.slice a2 I.length p2) (.slice a3 R.length p3)) := hide (heap_alloc_new w _)
  clear _hM _hlim hI hR hU hgI hgR hC hl0 hm1 hl1 hm2 hl2 hq1 hT hl
  go_enter Try.func26, Try.ntmps26
  go_wp2_with (first
    | (go_at_call_of 22 (Value.int IntKind.i64 6); refine (HK0.out _).mono ?_; rintro e0 w0x ⟨ar0, cr0, rfl, hb0, F0⟩; have d0 := HD.out.fr F0; have y00 := d0.k0; have y01 := d0.k1; have y02 := d0.k2; have y03 := d0.k3; have y04 := d0.k4; have y05 := d0.k5; have y06 := d0.k6; have HB0 := hide (hb0.mono (by simp : w.heap.size ≤ _)); have HF0 := hide (Fr.trans (S := fun _ => False) ((Fr.refl _ w).alloc _) F0 (fun _ _ e => e)); have HD0 := hide d0; have hz0 : w.heap.size ≤ w0x.heap.size := HF0.out.size; clear hb0 F0 d0)
    | (go_at_call_of 22 (Value.int IntKind.i64 (I.length : Int)); refine (HK1.out _).mono ?_; rintro e1 v1x ⟨b1, g1, rfl, hv1, G1⟩; have HV1 := hide hv1; have HC1 := hide (HB0.out.fr G1); have d1 := HD0.out.fr G1; have yc10 := d1.k0; have yc11 := d1.k1; have yc12 := d1.k2; have yc13 := d1.k3; have yc14 := d1.k4; have yc15 := d1.k5; have yc16 := d1.k6; have HE1 := hide d1; have HG1 := hide (HF0.out.trans G1 (fun _ _ e => e)); have hy1 : w.heap.size ≤ v1x.heap.size := HG1.out.size; clear hv1 G1 d1)
    | (at_builtin; refine wpList_appC rfl _ _ rfl w.heap.size _ l0 rfl HC1.out _ _ m1 rfl HV1.out hp1 (by omega) hy1 l1 HL1.out ?_; intro ar1 cr1 w1x hb1 F1; have d1 := HE1.out.upB F1; have y10 := d1.k0; have y11 := d1.k1; have y12 := d1.k2; have y13 := d1.k3; have y14 := d1.k4; have y15 := d1.k5; have y16 := d1.k6; have HB1 := hide hb1; have HF1 := hide (fw_new F1 HG1.out); have HD1 := hide d1; have hz1 : w.heap.size ≤ w1x.heap.size := HF1.out.size; clear hb1 F1 d1))
  go_loopw [3, 5] (fun bv u wr => ∃ (i : Nat) (a : Option Addr) (c : Nat), u = .int .i64 (i : Int) ∧ i ≤ I.length ∧ bv = .slice a (l1 ++ (I.take i).flatMap (datB h)).length c ∧ ByAt wr w.heap.size (.slice a (l1 ++ (I.take i).flatMap (datB h)).length c) (l1 ++ (I.take i).flatMap (datB h)) ∧ Fr (fun _ => False) w wr ∧ DBx wr w.heap.size (.int .i64 6) (.int .i64 n) (.bool b) (.slice a1 L.length p1) (.string t) (.slice a2 I.length p2) (.slice a3 R.length p3)) (fun _ u _ => I.length - (intOf u).toNat)
  case atStart => exact ⟨0, ar1, cr1, rfl, Nat.zero_le _, by simp, by simpa using HB1.out, HF1.out, HD1.out⟩
  case round =>
    obtain ⟨i, ai, ci, rfl, hi, rfl, hB, hF, hD⟩ := hrel
    have y5 := hD.k5
    have y0 := hD.k0
    have y6 := hD.k6
    by_cases hil : i < I.length
    · obtain ⟨g, off, rfl, kk, km, kb, um, kt, ui, ur, hdat, ⟨x1, x2, x3, rfl⟩, ⟨z1, z2, z3, rfl⟩, ⟨t1, t2, t3, rfl⟩, e0, e1, e2, e3, e4, e5, e6⟩ := row_cells HRI.out (up_new HU.out hF) hil
      have hgi : goodD h dp I[i] = true := List.all_eq_true.1 HGI.out _ (List.getElem_mem hil)
      have hfo := flat_one (datB h) I i hil
      have hft := flat_take_le (datB h) I (i + 1)
      rw [flat_take_succ (datB h) I i hil, List.length_append] at hft
      obtain ⟨li, hli⟩ : ∃ l, l = (l1 ++ (I.take i).flatMap (datB h)) := ⟨_, rfl⟩
      obtain ⟨mi, hmi⟩ : ∃ l, l = datB h I[i] := ⟨_, rfl⟩
      obtain ⟨lj, hlj⟩ : ∃ l, l = (l1 ++ (I.take (i + 1)).flatMap (datB h)) := ⟨_, rfl⟩
      have hjj : lj = li ++ mi := by rw [hlj, hli, hmi, flat_take_succ (datB h) I i hil, List.append_assoc]
      have hpi : 0 < mi.length := by rw [hmi]; exact datB_pos' h _
      have hbi : li.length + mi.length ≤ 900000000 := by rw [hli, hmi, List.length_append]; omega
      rw [← hli] at hB ⊢
      have HKD := hide (fun (W : World) (hf : Fr (fun _ => False) wr W) => show Calls Try.prog 26 #[.agg #[.int .i64 kk, .int .i64 km, .bool kb, .slice x1 x2 x3, .string kt, .slice z1 z2 z3, .slice t1 t2 t3]] W fun e w' => BEnd W mi e w' by rw [hmi]; exact HC.out w0 W I[i] _ _ _ _ _ _ _ dp hdat (up_new (up_new HU.out hF) hf) hgi (by omega))
      have HJ := hide hjj
      have HLJ := hide hlj
      have HBi := hide hB
      have HFi := hide hF
      have HDi := hide hD
      have hzi : w.heap.size ≤ wr.heap.size := hF.size
      have hkI : (i : Int) < (I.length : Int) := by omega
      clear hB hF hD hdat hgi hfo hft hjj hlj hli hmi
      go_wp2_with (first
        | (go_at_call 26; refine (HKD.out _ (Fr.refl _ _)).mono ?_; rintro e9 x9 ⟨b9, g9, rfl, hv9, G9⟩; have HV9 := hide hv9; have HC9 := hide (HBi.out.fr G9); have HE9 := hide (HDi.out.fr G9); have HG9 := hide (HFi.out.trans G9 (fun _ _ e => e)); have hy9 : w.heap.size ≤ x9.heap.size := HG9.out.size; clear hv9 G9)
        | (at_builtin; refine wpList_appC rfl _ _ rfl w.heap.size _ li rfl HC9.out _ _ mi rfl HV9.out hpi (by omega) hy9 lj HJ.out ?_; intro a10 c10 w10 hb10 F10; have HB10 := hide hb10; have HF10 := hide (fw_new F10 HG9.out); have HD10 := hide (HE9.out.upB F10); clear hb10 F10))
      exact ⟨⟨i + 1, a10, c10, by go_num, hil, by rw [HLJ.out], by rw [← HLJ.out]; exact HB10.out, HF10.out, HD10.out⟩, by simp [intOf]; omega⟩
    · have e : i = I.length := by omega
      subst e
      rw [List.take_length, ← HQ1.out] at hB ⊢
      have HBE1 := hide hB
      have HFE1 := hide hF
      have HDE1 := hide hD
      have hil' : ¬ ((I.length : Int) < (I.length : Int)) := by omega
      clear hB hF hD hil
      go_wp2_with (first
        | (go_at_call_of 22 (Value.int IntKind.i64 (R.length : Int)); refine (HK2.out _).mono ?_; rintro e2 v2x ⟨b2, g2, rfl, hv2, G2⟩; have HV2 := hide hv2; have HC2 := hide (HBE1.out.fr G2); have d2 := HDE1.out.fr G2; have yc20 := d2.k0; have yc21 := d2.k1; have yc22 := d2.k2; have yc23 := d2.k3; have yc24 := d2.k4; have yc25 := d2.k5; have yc26 := d2.k6; have HE2 := hide d2; have HG2 := hide (HFE1.out.trans G2 (fun _ _ e => e)); have hy2 : w.heap.size ≤ v2x.heap.size := HG2.out.size; clear hv2 G2 d2)
        | (at_builtin; refine wpList_appC rfl _ _ rfl w.heap.size _ q1 rfl HC2.out _ _ m2 rfl HV2.out hp2 (by omega) hy2 l2 HL2.out ?_; intro ar2 cr2 w2x hb2 F2; have d2 := HE2.out.upB F2; have y20 := d2.k0; have y21 := d2.k1; have y22 := d2.k2; have y23 := d2.k3; have y24 := d2.k4; have y25 := d2.k5; have y26 := d2.k6; have HB2 := hide hb2; have HF2 := hide (fw_new F2 HG2.out); have HD2 := hide d2; have hz2 : w.heap.size ≤ w2x.heap.size := HF2.out.size; clear hb2 F2 d2))
      clear HBE1 HFE1 HDE1
      go_loopw [3, 6] (fun bv u wr => ∃ (i : Nat) (a : Option Addr) (c : Nat), u = .int .i64 (i : Int) ∧ i ≤ R.length ∧ bv = .slice a (l2 ++ (R.take i).flatMap (datB h)).length c ∧ ByAt wr w.heap.size (.slice a (l2 ++ (R.take i).flatMap (datB h)).length c) (l2 ++ (R.take i).flatMap (datB h)) ∧ Fr (fun _ => False) w wr ∧ DBx wr w.heap.size (.int .i64 6) (.int .i64 n) (.bool b) (.slice a1 L.length p1) (.string t) (.slice a2 I.length p2) (.slice a3 R.length p3)) (fun _ u _ => R.length - (intOf u).toNat)
      case atStart => exact ⟨0, ar2, cr2, rfl, Nat.zero_le _, by simp, by simpa using HB2.out, HF2.out, HD2.out⟩
      case round =>
        obtain ⟨i, ai, ci, rfl, hi, rfl, hB, hF, hD⟩ := hrel
        have y6 := hD.k6
        have y0 := hD.k0
        by_cases hil : i < R.length
        · obtain ⟨g, off, rfl, kk, km, kb, um, kt, ui, ur, hdat, ⟨x1, x2, x3, rfl⟩, ⟨z1, z2, z3, rfl⟩, ⟨t1, t2, t3, rfl⟩, e0, e1, e2, e3, e4, e5, e6⟩ := row_cells HRR.out (up_new HU.out hF) hil
          have hgi : goodD h dp R[i] = true := List.all_eq_true.1 HGR.out _ (List.getElem_mem hil)
          have hfo := flat_one (datB h) R i hil
          have hft := flat_take_le (datB h) R (i + 1)
          rw [flat_take_succ (datB h) R i hil, List.length_append] at hft
          obtain ⟨li, hli⟩ : ∃ l, l = (l2 ++ (R.take i).flatMap (datB h)) := ⟨_, rfl⟩
          obtain ⟨mi, hmi⟩ : ∃ l, l = datB h R[i] := ⟨_, rfl⟩
          obtain ⟨lj, hlj⟩ : ∃ l, l = (l2 ++ (R.take (i + 1)).flatMap (datB h)) := ⟨_, rfl⟩
          have hjj : lj = li ++ mi := by rw [hlj, hli, hmi, flat_take_succ (datB h) R i hil, List.append_assoc]
          have hpi : 0 < mi.length := by rw [hmi]; exact datB_pos' h _
          have hbi : li.length + mi.length ≤ 900000000 := by rw [hli, hmi, List.length_append]; omega
          rw [← hli] at hB ⊢
          have HKD := hide (fun (W : World) (hf : Fr (fun _ => False) wr W) => show Calls Try.prog 26 #[.agg #[.int .i64 kk, .int .i64 km, .bool kb, .slice x1 x2 x3, .string kt, .slice z1 z2 z3, .slice t1 t2 t3]] W fun e w' => BEnd W mi e w' by rw [hmi]; exact HC.out w0 W R[i] _ _ _ _ _ _ _ dp hdat (up_new (up_new HU.out hF) hf) hgi (by omega))
          have HJ := hide hjj
          have HLJ := hide hlj
          have HBi := hide hB
          have HFi := hide hF
          have HDi := hide hD
          have hzi : w.heap.size ≤ wr.heap.size := hF.size
          have hkI : (i : Int) < (R.length : Int) := by omega
          clear hB hF hD hdat hgi hfo hft hjj hlj hli hmi
          go_wp2_with (first
            | (go_at_call 26; refine (HKD.out _ (Fr.refl _ _)).mono ?_; rintro e9 x9 ⟨b9, g9, rfl, hv9, G9⟩; have HV9 := hide hv9; have HC9 := hide (HBi.out.fr G9); have HE9 := hide (HDi.out.fr G9); have HG9 := hide (HFi.out.trans G9 (fun _ _ e => e)); have hy9 : w.heap.size ≤ x9.heap.size := HG9.out.size; clear hv9 G9)
            | (at_builtin; refine wpList_appC rfl _ _ rfl w.heap.size _ li rfl HC9.out _ _ mi rfl HV9.out hpi (by omega) hy9 lj HJ.out ?_; intro a10 c10 w10 hb10 F10; have HB10 := hide hb10; have HF10 := hide (fw_new F10 HG9.out); have HD10 := hide (HE9.out.upB F10); clear hb10 F10))
          exact ⟨⟨i + 1, a10, c10, by go_num, hil, by rw [HLJ.out], by rw [← HLJ.out]; exact HB10.out, HF10.out, HD10.out⟩, by simp [intOf]; omega⟩
        · have e : i = R.length := by omega
          subst e
          rw [List.take_length, ← HT.out] at hB ⊢
          have HBE2 := hide hB
          have HFE2 := hide hF
          have HDE2 := hide hD
          have hil' : ¬ ((R.length : Int) < (R.length : Int)) := by omega
          clear hB hF hD hil
          go_wp2
          go_ret
          exact ⟨ai, ci, rfl, HBE2.out, HFE2.out⟩

end Go.Proofs.Ytilcigjhogcjkaa
