/-
  What is proved here: the document's own bytes of a program (tandemref10.Write), given what it says of which may be written.
-/
import Derived.Test.YtilcigjhogcjkaaRPDat3
import Derived.Deep.LoopGhost
namespace Go.Proofs.Ytilcigjhogcjkaa
open Go Go.RowKit

theorem ByAt.four (w : World) : ByAt (w.alloc (.cells #[.int .u8 84, .int .u8 65, .int .u8 78, .int .u8 68] 5)) w.heap.size (.slice (some ⟨w.heap.size, 0, none⟩) 4 4) [84, 65, 78, 68] :=
  ⟨rfl, .inr ⟨w.heap.size, 4, #[.int .u8 84, .int .u8 65, .int .u8 78, .int .u8 68], rfl, Nat.le_refl _, heap_alloc_new w _, Nat.le_refl _, by decide, rfl, rfl⟩⟩
theorem txtB_pos (s : ByteArray) : 0 < (txtB s).length := by
  have := numB_pos s.size
  unfold txtB
  rw [List.length_append]
  omega

set_option maxRecDepth 100000 in
set_option maxHeartbeats 8000000 in
theorem rwrite_of {N : Nat} (w : World) (ps : List (PC N)) (v : Value) (hr : RowD w (PCell w) v ps) (hl : (pgB ps).length ≤ 900000000) (hRt : Calls Try.prog 21 #[v] w fun e w' => e = .returned (.bool (mayW ps)) ∧ Fr (fun _ => False) w w') :
    Calls Try.prog 10 #[v] w fun e w' => WrEnd w ps e w' := by
  obtain ⟨ao, cap, rfl⟩ := hr.shape
  have hIl : ps.length ≤ cap ∧ cap ≤ 9223372036854775807 := by
    obtain ⟨ao', cap', e, h1, h2, -⟩ := hr
    cases e
    exact ⟨h1, h2⟩
  by_cases hm : mayW ps = true
  · have hg : ∀ p, p ∈ ps → goodP p = true := by
      unfold mayW at hm
      rw [Bool.and_eq_true] at hm
      exact List.all_eq_true.1 hm.1
    have HRt := hide hRt
    rw [hm] at HRt
    have HM : Hid (mayW ps = true) := hm
    obtain ⟨T, hT⟩ : ∃ T, T = pgB ps := ⟨_, rfl⟩
    obtain ⟨m0, hm0⟩ : ∃ l, l = numB ps.length := ⟨_, rfl⟩
    have hp0 : 0 < m0.length := by rw [hm0]; exact numB_pos _
    obtain ⟨l0, hl0⟩ : ∃ l, l = [84, 65, 78, 68] ++ m0 := ⟨_, rfl⟩
    have hT2 : T = l0 ++ ps.flatMap proB := by rw [hT, hl0, hm0]; rfl
    have hTl : l0.length + (ps.flatMap proB).length ≤ 900000000 := by rw [← hT, hT2, List.length_append] at hl; exact hl
    have hq0 : 4 + m0.length = l0.length := by rw [hl0, List.length_append]; rfl
    have HK0 := hide (fun (W : World) => show Calls Try.prog 22 #[.int .i64 (ps.length : Int)] W fun e w' => BEnd W m0 e w' by rw [hm0]; exact rnum_any ps.length W (by omega))
    have HL0 := hide hl0
    have HT := hide hT
    have HT2 := hide hT2
    have HR := hide hr
    have HGP := hide hg
    have hZ : w.heap.size ≤ w.heap.size := Nat.le_refl _
    clear hm hg hRt hT hT2 hl hl0 hm0 hr
    go_enter Try.func10, Try.ntmps10
    go_wp2_with (first
      | (go_at_call 21; refine HRt.out.mono ?_; rintro eR wR ⟨rfl, FR⟩; have hzR : w.heap.size ≤ wR.heap.size := FR.size; have HFR := hide (FR.alloc (.cells #[.int .u8 84, .int .u8 65, .int .u8 78, .int .u8 68] 5)); clear FR)
      | (go_at_call 22; refine (HK0.out _).mono ?_; rintro e0 v0x ⟨b0, g0, rfl, hv0, G0⟩; have HV0 := hide hv0; have HC0 := hide (((ByAt.four wR).mono hzR).fr G0); have HG0 := hide (HFR.out.trans G0 (fun _ _ e => e)); have hy0 : w.heap.size ≤ v0x.heap.size := HG0.out.size; clear hv0 G0)
      | (at_builtin; refine wpList_appC rfl _ _ rfl w.heap.size _ [84, 65, 78, 68] rfl HC0.out _ _ m0 rfl HV0.out hp0 (by simp; omega) hy0 l0 HL0.out ?_; intro ar0 cr0 w0x hb0 F0; have HB0 := hide hb0; have HF0 := hide (fw_new F0 HG0.out); clear hb0 F0))
    go_loopg [4, 5] ps.length (fun kg bv u wr => ∃ (i : Nat) (a : Option Addr) (c : Nat), u = .int .i64 (i : Int) ∧ i ≤ ps.length ∧ kg = ps.length - i ∧ bv = .slice a (l0 ++ (ps.take i).flatMap proB).length c ∧ ByAt wr w.heap.size (.slice a (l0 ++ (ps.take i).flatMap proB).length c) (l0 ++ (ps.take i).flatMap proB) ∧ Fr (fun _ => False) w wr)
    case atStart => exact ⟨0, ar0, cr0, rfl, Nat.zero_le _, rfl, by simp, by simpa using HB0.out, HF0.out⟩
    case round =>
      obtain ⟨i, ai, ci, rfl, hi, hkg, rfl, hB, hF⟩ := hrel
      by_cases hil : i < ps.length
      · obtain ⟨g, off, rfl, co, cc, ka, kc, na, nc, hd, e0, e1, e2, e3, e4, e5, e6⟩ := proto_cells HR.out hF.upw' hil
        have hgp := HGP.out _ (List.getElem_mem hil)
        have hft := flat_take_le proB ps (i + 1)
        rw [flat_take_succ proB ps i hil, List.length_append] at hft
        have hfs := flat_take_succ proB ps i hil
        generalize ps[i] = p at *
        obtain ⟨co', cc', ka', kc', na', nc', ecs, hco, hks, hns⟩ := hd
        injection ecs with q0 ecs
        injection ecs with q1 ecs
        injection ecs with q2 ecs
        injection ecs with q3 ecs
        injection ecs with q4 ecs
        injection ecs with q5 ecs
        injection ecs with q6 ecs
        injection q4 with qa qb qc
        injection q5 with qd qe qf
        injection q6 with qg qh qi
        subst qa qc qd qf qg qi
        clear ecs q0 q1 q2 q3 qb qe qh
        simp only [goodP, Bool.and_eq_true] at hgp
        obtain ⟨hg1, hg2, hg3, hg4⟩ := hgp
        have hA := num_le hg1
        have hFr := num_le hg2
        have hc1 := hco.1
        have hc2 := hco.2.1
        have hn1 := hns.1
        have hn2 := hns.2.1
        have hk1 : p.ks.length ≤ kc ∧ kc ≤ 9223372036854775807 := by
          obtain ⟨ao', cap', e, z1, z2, -⟩ := hks
          cases e
          exact ⟨z1, z2⟩
        obtain ⟨j0, hj0⟩ : ∃ l, l = l0 ++ (ps.take i).flatMap proB := ⟨_, rfl⟩
        obtain ⟨jT, hjT⟩ : ∃ l, l = l0 ++ (ps.take (i + 1)).flatMap proB := ⟨_, rfl⟩
        have hjb : j0.length + (proB p).length ≤ 900000000 := by rw [hj0, List.length_append]; omega
        have hjj : jT = j0 ++ proB p := by rw [hjT, hj0, hfs, List.append_assoc]
        rw [← hj0] at hB ⊢
        obtain ⟨n1, hn1'⟩ : ∃ l, l = txtB p.nm := ⟨_, rfl⟩
        obtain ⟨n2, hn2'⟩ : ∃ l, l = numB p.args.toNat := ⟨_, rfl⟩
        obtain ⟨n4, hn4⟩ : ∃ l, l = numB p.free.toNat := ⟨_, rfl⟩
        obtain ⟨n5, hn5⟩ : ∃ l, l = numB p.code.length := ⟨_, rfl⟩
        obtain ⟨n7, hn7⟩ : ∃ l, l = numB p.ks.length := ⟨_, rfl⟩
        obtain ⟨n9, hn9⟩ : ∃ l, l = numB p.ns.length := ⟨_, rfl⟩
        obtain ⟨xb, hxb1, hxb2⟩ : ∃ x : Nat, (if p.rest then (1 : Int) else 0) = (x : Int) ∧ flgB p.rest = [x] := by
          cases p.rest
          · exact ⟨0, rfl, rfl⟩
          · exact ⟨1, rfl, rfl⟩
        obtain ⟨j1, hj1⟩ : ∃ l, l = j0 ++ n1 := ⟨_, rfl⟩
        obtain ⟨j2, hj2⟩ : ∃ l, l = j1 ++ n2 := ⟨_, rfl⟩
        obtain ⟨j3, hj3⟩ : ∃ l, l = j2 ++ [xb] := ⟨_, rfl⟩
        obtain ⟨j4, hj4⟩ : ∃ l, l = j3 ++ n4 := ⟨_, rfl⟩
        obtain ⟨j5, hj5⟩ : ∃ l, l = j4 ++ n5 := ⟨_, rfl⟩
        obtain ⟨j6, hj6⟩ : ∃ l, l = j5 ++ p.code.flatMap insB := ⟨_, rfl⟩
        obtain ⟨j7, hj7⟩ : ∃ l, l = j6 ++ n7 := ⟨_, rfl⟩
        obtain ⟨j8, hj8⟩ : ∃ l, l = j7 ++ p.ks.flatMap (datB N) := ⟨_, rfl⟩
        obtain ⟨j9, hj9⟩ : ∃ l, l = j8 ++ n9 := ⟨_, rfl⟩
        have hjE : jT = j9 ++ p.ns.flatMap txtB := by
          rw [hjj, hj9, hj8, hj7, hj6, hj5, hj4, hj3, hj2, hj1, hn1', hn2', hn4, hn5, hn7, hn9, ← hxb2]
          simp [proB, List.append_assoc]
        have z1 : j0.length + n1.length = j1.length := by rw [hj1, List.length_append]
        have z2 : j1.length + n2.length = j2.length := by rw [hj2, List.length_append]
        have z4 : j3.length + n4.length = j4.length := by rw [hj4, List.length_append]
        have z5 : j4.length + n5.length = j5.length := by rw [hj5, List.length_append]
        have z7 : j6.length + n7.length = j7.length := by rw [hj7, List.length_append]
        have z9 : j8.length + n9.length = j9.length := by rw [hj9, List.length_append]
        have z3 : j2.length + 1 = j3.length := by rw [hj3, List.length_append]; rfl
        have z6 : j5.length + (p.code.flatMap insB).length = j6.length := by rw [hj6, List.length_append]
        have z8 : j7.length + (p.ks.flatMap (datB N)).length = j8.length := by rw [hj8, List.length_append]
        have zT : j9.length + (p.ns.flatMap txtB).length ≤ 900000000 := by
          have h1 : jT.length ≤ 900000000 := by rw [hjj, List.length_append]; exact hjb
          rw [hjE, List.length_append] at h1
          exact h1
        have pn1 : 0 < n1.length := by rw [hn1']; exact txtB_pos _
        have pn2 : 0 < n2.length := by rw [hn2']; exact numB_pos _
        have pn4 : 0 < n4.length := by rw [hn4]; exact numB_pos _
        have pn5 : 0 < n5.length := by rw [hn5]; exact numB_pos _
        have pn7 : 0 < n7.length := by rw [hn7]; exact numB_pos _
        have pn9 : 0 < n9.length := by rw [hn9]; exact numB_pos _
        have hts : p.nm.size ≤ 900000000 := by
          have h1 := byL_len p.nm
          have h2 : n1.length = (numB p.nm.size).length + (byL p.nm.data.toList).length := by rw [hn1', txtB, List.length_append]
          omega
        have HK1 := hide (fun (W : World) => show Calls Try.prog 23 #[.string p.nm] W fun e w' => BEnd W n1 e w' by rw [hn1']; exact rsome_any p.nm W hts)
        have HK2 := hide (fun (W : World) => show Calls Try.prog 22 #[.int .i64 p.args] W fun e w' => BEnd W n2 e w' by rw [hn2']; exact rnum_int p.args W hA.1 (by omega))
        have HKB := hide (fun (W : World) => show Calls Try.prog 24 #[.bool p.rest] W fun e w' => e = .returned (.int .u8 (xb : Int)) ∧ w' = W by rw [← hxb1]; exact rbit_any p.rest W)
        have HK4 := hide (fun (W : World) => show Calls Try.prog 22 #[.int .i64 p.free] W fun e w' => BEnd W n4 e w' by rw [hn4]; exact rnum_int p.free W hFr.1 (by omega))
        have HK5 := hide (fun (W : World) => show Calls Try.prog 22 #[.int .i64 (p.code.length : Int)] W fun e w' => BEnd W n5 e w' by rw [hn5]; exact rnum_any p.code.length W (by omega))
        have HK7 := hide (fun (W : World) => show Calls Try.prog 22 #[.int .i64 (p.ks.length : Int)] W fun e w' => BEnd W n7 e w' by rw [hn7]; exact rnum_any p.ks.length W (by omega))
        have HK9 := hide (fun (W : World) => show Calls Try.prog 22 #[.int .i64 (p.ns.length : Int)] W fun e w' => BEnd W n9 e w' by rw [hn9]; exact rnum_any p.ns.length W (by omega))
        have HJ1 := hide hj1
        have HJ2 := hide hj2
        have HJ3 := hide hj3
        have HJ4 := hide hj4
        have HJ5 := hide hj5
        have HJ6 := hide hj6
        have HJ7 := hide hj7
        have HJ8 := hide hj8
        have HJ9 := hide hj9
        have HJT := hide hjT
        have HJE := hide hjE
        have HCO := hide hco
        have HKS := hide hks
        have HNS := hide hns
        have HGC := hide hg3
        have HGK := hide hg4
        have HKG := hide hkg
        have HP0 : Hid (PBx (wr.alloc (.cells #[.string p.nm, .int .i64 p.args, .int .i64 p.free, .bool p.rest, .slice co p.code.length cc, .slice ka p.ks.length kc, .slice na p.ns.length nc] 48)) wr.heap.size (.string p.nm) (.int .i64 p.args) (.int .i64 p.free) (.bool p.rest) (.slice co p.code.length cc) (.slice ka p.ks.length kc) (.slice na p.ns.length nc)) := hide (heap_alloc_new wr _)
        have HBz : Hid (ByAt (wr.alloc (.cells #[.string p.nm, .int .i64 p.args, .int .i64 p.free, .bool p.rest, .slice co p.code.length cc, .slice ka p.ks.length kc, .slice na p.ns.length nc] 48)) w.heap.size (.slice ai j0.length ci) j0) := hide (hB.fr ((Fr.refl _ _).alloc _))
        have HFz : Hid (Fr (fun _ => False) w (wr.alloc (.cells #[.string p.nm, .int .i64 p.args, .int .i64 p.free, .bool p.rest, .slice co p.code.length cc, .slice ka p.ks.length kc, .slice na p.ns.length nc] 48))) := hide (hF.alloc _)
        have hkI : (i : Int) < (ps.length : Int) := by omega
        clear hB hF hg1 hg2 hg3 hg4 hA hFr hco hks hns hft hfs hjj hjE hjb hj0 hj1 hj2 hj3 hj4 hj5 hj6 hj7 hj8 hj9 hjT hn1' hn2' hn4 hn5 hn7 hn9 hxb1 hxb2 hts hkg
        go_wp2_with (first
          | (go_at_call 23; refine (HK1.out _).mono ?_; rintro e1 v1x ⟨b1, g1, rfl, hv1, G1⟩; have HV1 := hide hv1; have HC1 := hide (HBz.out.fr G1); have d1 := HP0.out.fr G1; have yc10 := d1.k0; have yc11 := d1.k1; have yc12 := d1.k2; have yc13 := d1.k3; have yc14 := d1.k4; have yc15 := d1.k5; have yc16 := d1.k6; have HE1 := hide d1; have HG1 := hide (HFz.out.trans G1 (fun _ _ e => e)); have hy1 : w.heap.size ≤ v1x.heap.size := HG1.out.size; clear hv1 G1 d1)
          | (at_builtin; refine wpList_appC rfl _ _ rfl w.heap.size _ j0 rfl HC1.out _ _ n1 rfl HV1.out pn1 (by omega) hy1 j1 HJ1.out ?_; intro ar1 cr1 w1x hb1 F1; have d1 := HE1.out.fw F1; have y10 := d1.k0; have y11 := d1.k1; have y12 := d1.k2; have y13 := d1.k3; have y14 := d1.k4; have y15 := d1.k5; have y16 := d1.k6; have HB1 := hide hb1; have HF1 := hide (fw_new F1 HG1.out); have HP1 := hide d1; have hz1 : w.heap.size ≤ w1x.heap.size := HF1.out.size; clear hb1 F1 d1)
          | (go_at_call_of 22 (Value.int IntKind.i64 p.args); refine (HK2.out _).mono ?_; rintro e2 v2x ⟨b2, g2, rfl, hv2, G2⟩; have HV2 := hide hv2; have HC2 := hide (HB1.out.fr G2); have d2 := HP1.out.fr G2; have yc20 := d2.k0; have yc21 := d2.k1; have yc22 := d2.k2; have yc23 := d2.k3; have yc24 := d2.k4; have yc25 := d2.k5; have yc26 := d2.k6; have HE2 := hide d2; have HG2 := hide (HF1.out.trans G2 (fun _ _ e => e)); have hy2 : w.heap.size ≤ v2x.heap.size := HG2.out.size; clear hv2 G2 d2)
          | (at_builtin; refine wpList_appC rfl _ _ rfl w.heap.size _ j1 rfl HC2.out _ _ n2 rfl HV2.out pn2 (by omega) hy2 j2 HJ2.out ?_; intro ar2 cr2 w2x hb2 F2; have d2 := HE2.out.fw F2; have y20 := d2.k0; have y21 := d2.k1; have y22 := d2.k2; have y23 := d2.k3; have y24 := d2.k4; have y25 := d2.k5; have y26 := d2.k6; have HB2 := hide hb2; have HF2 := hide (fw_new F2 HG2.out); have HP2 := hide d2; have hz2 : w.heap.size ≤ w2x.heap.size := HF2.out.size; clear hb2 F2 d2)
          | (go_at_call 24; refine (HKB.out _).mono ?_; rintro eb wb ⟨rfl, rfl⟩)
          | (at_builtin; refine wpList_appC rfl _ _ rfl w.heap.size _ j2 rfl (HB2.out.fr ((Fr.refl _ _).alloc _)) _ _ [xb] rfl (ByAt.one _ xb) (Nat.succ_pos _) (by simp; omega) (by simp; omega) j3 HJ3.out ?_; intro ar3 cr3 w3x hb3 F3; have d3 := (HP2.out.fr ((Fr.refl _ _).alloc (.cells #[.int .u8 (xb : Int)] 5))).fw F3; have y30 := d3.k0; have y31 := d3.k1; have y32 := d3.k2; have y33 := d3.k3; have y34 := d3.k4; have y35 := d3.k5; have y36 := d3.k6; have HB3 := hide hb3; have HF3 := hide (fw_new F3 (HF2.out.alloc _)); have HP3 := hide d3; have hz3 : w.heap.size ≤ w3x.heap.size := HF3.out.size; clear hb3 F3 d3)
          | (go_at_call_of 22 (Value.int IntKind.i64 p.free); refine (HK4.out _).mono ?_; rintro e4 v4x ⟨b4, g4, rfl, hv4, G4⟩; have HV4 := hide hv4; have HC4 := hide (HB3.out.fr G4); have d4 := HP3.out.fr G4; have yc40 := d4.k0; have yc41 := d4.k1; have yc42 := d4.k2; have yc43 := d4.k3; have yc44 := d4.k4; have yc45 := d4.k5; have yc46 := d4.k6; have HE4 := hide d4; have HG4 := hide (HF3.out.trans G4 (fun _ _ e => e)); have hy4 : w.heap.size ≤ v4x.heap.size := HG4.out.size; clear hv4 G4 d4)
          | (at_builtin; refine wpList_appC rfl _ _ rfl w.heap.size _ j3 rfl HC4.out _ _ n4 rfl HV4.out pn4 (by omega) hy4 j4 HJ4.out ?_; intro ar4 cr4 w4x hb4 F4; have d4 := HE4.out.fw F4; have y40 := d4.k0; have y41 := d4.k1; have y42 := d4.k2; have y43 := d4.k3; have y44 := d4.k4; have y45 := d4.k5; have y46 := d4.k6; have HB4 := hide hb4; have HF4 := hide (fw_new F4 HG4.out); have HP4 := hide d4; have hz4 : w.heap.size ≤ w4x.heap.size := HF4.out.size; clear hb4 F4 d4)
          | (go_at_call_of 22 (Value.int IntKind.i64 (p.code.length : Int)); refine (HK5.out _).mono ?_; rintro e5 v5x ⟨b5, g5, rfl, hv5, G5⟩; have HV5 := hide hv5; have HC5 := hide (HB4.out.fr G5); have d5 := HP4.out.fr G5; have yc50 := d5.k0; have yc51 := d5.k1; have yc52 := d5.k2; have yc53 := d5.k3; have yc54 := d5.k4; have yc55 := d5.k5; have yc56 := d5.k6; have HE5 := hide d5; have HG5 := hide (HF4.out.trans G5 (fun _ _ e => e)); have hy5 : w.heap.size ≤ v5x.heap.size := HG5.out.size; clear hv5 G5 d5)
          | (at_builtin; refine wpList_appC rfl _ _ rfl w.heap.size _ j4 rfl HC5.out _ _ n5 rfl HV5.out pn5 (by omega) hy5 j5 HJ5.out ?_; intro ar5 cr5 w5x hb5 F5; have d5 := HE5.out.fw F5; have y50 := d5.k0; have y51 := d5.k1; have y52 := d5.k2; have y53 := d5.k3; have y54 := d5.k4; have y55 := d5.k5; have y56 := d5.k6; have HB5 := hide hb5; have HF5 := hide (fw_new F5 HG5.out); have HP5 := hide d5; have hz5 : w.heap.size ≤ w5x.heap.size := HF5.out.size; clear hb5 F5 d5))
        generalize wr.heap.size = pb at *
        go_loopw [4, 7] (fun bv u wr => ∃ (i2 : Nat) (a : Option Addr) (c : Nat), u = .int .i64 (i2 : Int) ∧ i2 ≤ p.code.length ∧ bv = .slice a (j5 ++ (p.code.take i2).flatMap insB).length c ∧ ByAt wr w.heap.size (.slice a (j5 ++ (p.code.take i2).flatMap insB).length c) (j5 ++ (p.code.take i2).flatMap insB) ∧ Fr (fun _ => False) w wr ∧ PBx wr pb (.string p.nm) (.int .i64 p.args) (.int .i64 p.free) (.bool p.rest) (.slice co p.code.length cc) (.slice ka p.ks.length kc) (.slice na p.ns.length nc)) (fun _ u _ => p.code.length - (intOf u).toNat)
        case atStart => exact ⟨0, ar5, cr5, rfl, Nat.zero_le _, by simp, by simpa using HB5.out, HF5.out, HP5.out⟩
        case round =>
          obtain ⟨i2, ai, ci, rfl, hi2, rfl, hB, hF, hP⟩ := hrel
          have yy0 := hP.k0
          have yy1 := hP.k1
          have yy2 := hP.k2
          have yy3 := hP.k3
          have yy4 := hP.k4
          have yy5 := hP.k5
          have yy6 := hP.k6
          by_cases hil2 : i2 < p.code.length
          · obtain ⟨g2, off2, ea, d0, d1, d2⟩ : ∃ g off, co = some ⟨g, off, none⟩ ∧ w.cell? ⟨g, off + i2 * 3, none⟩ = some (.int .i64 p.code[i2].1) ∧ w.cell? ⟨g, off + i2 * 3 + 1, none⟩ = some (.int .i64 p.code[i2].2.1) ∧ w.cell? ⟨g, off + i2 * 3 + 2, none⟩ = some (.int .i64 p.code[i2].2.2) := by
              rcases HCO.out.2.2 with e | ⟨g, off, ea, hc⟩
              · omega
              · exact ⟨g, off, ea, hc i2 hil2⟩
            subst ea
            have hG : goodI p.code[i2] = true := List.all_eq_true.1 HGC.out _ (List.getElem_mem hil2)
            have hft2 := flat_take_le insB p.code (i2 + 1)
            rw [flat_take_succ insB p.code i2 hil2, List.length_append] at hft2
            have hfs2 := flat_take_succ insB p.code i2 hil2
            obtain ⟨r0, hr0⟩ : ∃ l, l = (j5 ++ (p.code.take i2).flatMap insB) := ⟨_, rfl⟩
            obtain ⟨rT, hrT⟩ : ∃ l, l = (j5 ++ (p.code.take (i2 + 1)).flatMap insB) := ⟨_, rfl⟩
            rw [← hr0] at hB ⊢
            generalize p.code[i2] = x at *
            simp only [goodI, Bool.and_eq_true] at hG
            have hx0 := num_le hG.1
            have hx1 := half_le hG.2.1
            have hx2 := half_le hG.2.2
            have hg2 : g2 < w.heap.size := World.block_lt_of_cell? w _ d0
            have f0 := (hF.cell hg2 (fun e => e)).trans d0
            obtain ⟨k1, hk1'⟩ : ∃ l, l = numB x.1.toNat := ⟨_, rfl⟩
            have pk1 : 0 < k1.length := by rw [hk1']; exact numB_pos _
            obtain ⟨r1, hr1⟩ : ∃ l, l = r0 ++ k1 := ⟨_, rfl⟩
            have zr1 : r0.length + k1.length = r1.length := by rw [hr1, List.length_append]
            obtain ⟨k2, hk2'⟩ : ∃ l, l = numB (sgnN x.2.1) := ⟨_, rfl⟩
            have pk2 : 0 < k2.length := by rw [hk2']; exact numB_pos _
            obtain ⟨r2, hr2⟩ : ∃ l, l = r1 ++ k2 := ⟨_, rfl⟩
            have zr2 : r1.length + k2.length = r2.length := by rw [hr2, List.length_append]
            obtain ⟨k3, hk3'⟩ : ∃ l, l = numB (sgnN x.2.2) := ⟨_, rfl⟩
            have pk3 : 0 < k3.length := by rw [hk3']; exact numB_pos _
            obtain ⟨r3, hr3⟩ : ∃ l, l = r2 ++ k3 := ⟨_, rfl⟩
            have zr3 : r2.length + k3.length = r3.length := by rw [hr3, List.length_append]
            have hTr : rT = r3 := by
              rw [hrT, hr3, hr2, hr1, hr0, hfs2, hk1', hk2', hk3']
              simp [insB, List.append_assoc]
            have zrT : r3.length ≤ 900000000 := by
              rw [← hTr, hrT, hfs2]
              simp only [List.length_append]
              omega
            have HQ1 := hide (fun (W : World) => show Calls Try.prog 22 #[.int .i64 x.1] W fun e w' => BEnd W k1 e w' by rw [hk1']; exact rnum_int x.1 W hx0.1 (by omega))
            have HQ2 := hide (fun (W : World) => show Calls Try.prog 25 #[.int .i64 x.2.1] W fun e w' => BEnd W k2 e w' by rw [hk2']; exact rsigned_any x.2.1 W hx1.1 hx1.2)
            have HQ3 := hide (fun (W : World) => show Calls Try.prog 25 #[.int .i64 x.2.2] W fun e w' => BEnd W k3 e w' by rw [hk3']; exact rsigned_any x.2.2 W hx2.1 hx2.2)
            have HRT : Hid (r3 = (j5 ++ (p.code.take (i2 + 1)).flatMap insB)) := by unfold Hid; rw [← hTr, hrT]
            have HR1 := hide hr1
            have HR2 := hide hr2
            have HR3 := hide hr3
            have HBr0 := hide hB
            have HFr0 := hide hF
            have HPr0 := hide hP
            have hzi : w.heap.size ≤ wr.heap.size := hF.size
            have hkI2 : (i2 : Int) < (p.code.length : Int) := by omega
            have HD1 := hide d1
            have HD2 := hide d2
            clear hB hF hP hft2 hfs2 hr0 hr1 hr2 hr3 hrT hTr hk1' hk2' hk3' hG hx0 hx1 hx2 d0 d1 d2
            go_wp2_with (first
              | (go_at_call_of 22 (Value.int IntKind.i64 x.1); refine (HQ1.out _).mono ?_; rintro er1 vr1x ⟨br1, gr1, rfl, hvr1, Gr1⟩; have HVr1 := hide hvr1; have HCr1 := hide (HBr0.out.fr Gr1); have dr1 := HPr0.out.fr Gr1; have ycr10 := dr1.k0; have ycr11 := dr1.k1; have ycr12 := dr1.k2; have ycr13 := dr1.k3; have ycr14 := dr1.k4; have ycr15 := dr1.k5; have ycr16 := dr1.k6; have HEr1 := hide dr1; have HGr1 := hide (HFr0.out.trans Gr1 (fun _ _ e => e)); have hyr1 : w.heap.size ≤ vr1x.heap.size := HGr1.out.size; clear hvr1 Gr1 dr1)
              | (at_builtin; refine wpList_appC rfl _ _ rfl w.heap.size _ r0 rfl HCr1.out _ _ k1 rfl HVr1.out pk1 (by omega) hyr1 r1 HR1.out ?_; intro arr1 crr1 wr1x hbr1 Fr1; have dr1 := HEr1.out.fw Fr1; have yr10 := dr1.k0; have yr11 := dr1.k1; have yr12 := dr1.k2; have yr13 := dr1.k3; have yr14 := dr1.k4; have yr15 := dr1.k5; have yr16 := dr1.k6; have HBr1 := hide hbr1; have HFr1 := hide (fw_new Fr1 HGr1.out); have HPr1 := hide dr1; have hzr1 : w.heap.size ≤ wr1x.heap.size := HFr1.out.size; have fr1a := (HFr1.out.cell hg2 (fun e => e)).trans HD1.out; clear hbr1 Fr1 dr1)
              | (go_at_call_of 25 (Value.int IntKind.i64 x.2.1); refine (HQ2.out _).mono ?_; rintro er2 vr2x ⟨br2, gr2, rfl, hvr2, Gr2⟩; have HVr2 := hide hvr2; have HCr2 := hide (HBr1.out.fr Gr2); have dr2 := HPr1.out.fr Gr2; have ycr20 := dr2.k0; have ycr21 := dr2.k1; have ycr22 := dr2.k2; have ycr23 := dr2.k3; have ycr24 := dr2.k4; have ycr25 := dr2.k5; have ycr26 := dr2.k6; have HEr2 := hide dr2; have HGr2 := hide (HFr1.out.trans Gr2 (fun _ _ e => e)); have hyr2 : w.heap.size ≤ vr2x.heap.size := HGr2.out.size; clear hvr2 Gr2 dr2)
              | (at_builtin; refine wpList_appC rfl _ _ rfl w.heap.size _ r1 rfl HCr2.out _ _ k2 rfl HVr2.out pk2 (by omega) hyr2 r2 HR2.out ?_; intro arr2 crr2 wr2x hbr2 Fr2; have dr2 := HEr2.out.fw Fr2; have yr20 := dr2.k0; have yr21 := dr2.k1; have yr22 := dr2.k2; have yr23 := dr2.k3; have yr24 := dr2.k4; have yr25 := dr2.k5; have yr26 := dr2.k6; have HBr2 := hide hbr2; have HFr2 := hide (fw_new Fr2 HGr2.out); have HPr2 := hide dr2; have hzr2 : w.heap.size ≤ wr2x.heap.size := HFr2.out.size; have fr2a := (HFr2.out.cell hg2 (fun e => e)).trans HD2.out; clear hbr2 Fr2 dr2)
              | (go_at_call_of 25 (Value.int IntKind.i64 x.2.2); refine (HQ3.out _).mono ?_; rintro er3 vr3x ⟨br3, gr3, rfl, hvr3, Gr3⟩; have HVr3 := hide hvr3; have HCr3 := hide (HBr2.out.fr Gr3); have dr3 := HPr2.out.fr Gr3; have ycr30 := dr3.k0; have ycr31 := dr3.k1; have ycr32 := dr3.k2; have ycr33 := dr3.k3; have ycr34 := dr3.k4; have ycr35 := dr3.k5; have ycr36 := dr3.k6; have HEr3 := hide dr3; have HGr3 := hide (HFr2.out.trans Gr3 (fun _ _ e => e)); have hyr3 : w.heap.size ≤ vr3x.heap.size := HGr3.out.size; clear hvr3 Gr3 dr3)
              | (at_builtin; refine wpList_appC rfl _ _ rfl w.heap.size _ r2 rfl HCr3.out _ _ k3 rfl HVr3.out pk3 (by omega) hyr3 r3 HR3.out ?_; intro arr3 crr3 wr3x hbr3 Fr3; have dr3 := HEr3.out.fw Fr3; have yr30 := dr3.k0; have yr31 := dr3.k1; have yr32 := dr3.k2; have yr33 := dr3.k3; have yr34 := dr3.k4; have yr35 := dr3.k5; have yr36 := dr3.k6; have HBr3 := hide hbr3; have HFr3 := hide (fw_new Fr3 HGr3.out); have HPr3 := hide dr3; have hzr3 : w.heap.size ≤ wr3x.heap.size := HFr3.out.size; clear hbr3 Fr3 dr3))
            exact ⟨⟨i2 + 1, arr3, crr3, by go_num, hil2, by rw [← HRT.out], by rw [← HRT.out]; exact HBr3.out, HFr3.out, HPr3.out⟩, by simp [intOf]; omega⟩
          · have e : i2 = p.code.length := by omega
            subst e
            rw [List.take_length, ← HJ6.out] at hB ⊢
            have HBE5 := hide hB
            have HFE5 := hide hF
            have HPE5 := hide hP
            have hil2' : ¬ ((p.code.length : Int) < (p.code.length : Int)) := by omega
            clear hB hF hP hil2
            go_wp2_with (first
              | (go_at_call_of 22 (Value.int IntKind.i64 (p.ks.length : Int)); refine (HK7.out _).mono ?_; rintro e7 v7x ⟨b7, g7, rfl, hv7, G7⟩; have HV7 := hide hv7; have HC7 := hide (HBE5.out.fr G7); have d7 := HPE5.out.fr G7; have yc70 := d7.k0; have yc71 := d7.k1; have yc72 := d7.k2; have yc73 := d7.k3; have yc74 := d7.k4; have yc75 := d7.k5; have yc76 := d7.k6; have HE7 := hide d7; have HG7 := hide (HFE5.out.trans G7 (fun _ _ e => e)); have hy7 : w.heap.size ≤ v7x.heap.size := HG7.out.size; clear hv7 G7 d7)
              | (at_builtin; refine wpList_appC rfl _ _ rfl w.heap.size _ j6 rfl HC7.out _ _ n7 rfl HV7.out pn7 (by omega) hy7 j7 HJ7.out ?_; intro ar7 cr7 w7x hb7 F7; have d7 := HE7.out.fw F7; have y70 := d7.k0; have y71 := d7.k1; have y72 := d7.k2; have y73 := d7.k3; have y74 := d7.k4; have y75 := d7.k5; have y76 := d7.k6; have HB7 := hide hb7; have HF7 := hide (fw_new F7 HG7.out); have HP7 := hide d7; have hz7 : w.heap.size ≤ w7x.heap.size := HF7.out.size; clear hb7 F7 d7))
            go_loopw [4, 8] (fun bv u wr => ∃ (i2 : Nat) (a : Option Addr) (c : Nat), u = .int .i64 (i2 : Int) ∧ i2 ≤ p.ks.length ∧ bv = .slice a (j7 ++ (p.ks.take i2).flatMap (datB N)).length c ∧ ByAt wr w.heap.size (.slice a (j7 ++ (p.ks.take i2).flatMap (datB N)).length c) (j7 ++ (p.ks.take i2).flatMap (datB N)) ∧ Fr (fun _ => False) w wr ∧ PBx wr pb (.string p.nm) (.int .i64 p.args) (.int .i64 p.free) (.bool p.rest) (.slice co p.code.length cc) (.slice ka p.ks.length kc) (.slice na p.ns.length nc)) (fun _ u _ => p.ks.length - (intOf u).toNat)
            case atStart => exact ⟨0, ar7, cr7, rfl, Nat.zero_le _, by simp, by simpa using HB7.out, HF7.out, HP7.out⟩
            case round =>
              obtain ⟨i2, ai, ci, rfl, hi2, rfl, hB, hF, hP⟩ := hrel
              have yy0 := hP.k0
              have yy1 := hP.k1
              have yy2 := hP.k2
              have yy3 := hP.k3
              have yy4 := hP.k4
              have yy5 := hP.k5
              have yy6 := hP.k6
              by_cases hil2 : i2 < p.ks.length
              · obtain ⟨g2, off2, rfl, kk, km, kb, um, kt, ui, ur, hdat, ⟨x1, x2, x3, rfl⟩, ⟨z1, z2, z3, rfl⟩, ⟨t1, t2, t3, rfl⟩, e0, e1, e2, e3, e4, e5, e6⟩ := row_cells HKS.out hF.upw' hil2
                have hgi : goodD N 100 p.ks[i2] = true := List.all_eq_true.1 HGK.out _ (List.getElem_mem hil2)
                have hft2 := flat_take_le (datB N) p.ks (i2 + 1)
                rw [flat_take_succ (datB N) p.ks i2 hil2, List.length_append] at hft2
                have hfs2 := flat_take_succ (datB N) p.ks i2 hil2
                obtain ⟨r0, hr0⟩ : ∃ l, l = (j7 ++ (p.ks.take i2).flatMap (datB N)) := ⟨_, rfl⟩
                obtain ⟨rT, hrT⟩ : ∃ l, l = (j7 ++ (p.ks.take (i2 + 1)).flatMap (datB N)) := ⟨_, rfl⟩
                rw [← hr0] at hB ⊢
                obtain ⟨k1, hk1'⟩ : ∃ l, l = datB N p.ks[i2] := ⟨_, rfl⟩
                have pk1 : 0 < k1.length := by rw [hk1']; exact datB_pos' N _
                obtain ⟨r1, hr1⟩ : ∃ l, l = r0 ++ k1 := ⟨_, rfl⟩
                have zr1 : r0.length + k1.length = r1.length := by rw [hr1, List.length_append]
                have hTr : rT = r1 := by rw [hrT, hr1, hr0, hfs2, hk1', List.append_assoc]
                have zrT : r1.length ≤ 900000000 := by
                  rw [← hTr, hrT, hfs2]
                  simp only [List.length_append]
                  omega
                have zk1 : k1.length ≤ 900000000 := by omega
                have HQ1 := hide (fun (W : World) (hu : Up w W) => show Calls Try.prog 26 #[.agg #[.int .i64 kk, .int .i64 km, .bool kb, .slice x1 x2 x3, .string kt, .slice z1 z2 z3, .slice t1 t2 t3]] W fun e w' => BEnd W k1 e w' by rw [hk1']; exact rdatum_all N w W p.ks[i2] _ _ _ _ _ _ _ 100 hdat hu hgi (by rw [← hk1']; exact zk1))
                have HRT : Hid (r1 = (j7 ++ (p.ks.take (i2 + 1)).flatMap (datB N))) := by unfold Hid; rw [← hTr, hrT]
                have HR1 := hide hr1
                have HBr0 := hide hB
                have HFr0 := hide hF
                have HPr0 := hide hP
                have hzi : w.heap.size ≤ wr.heap.size := hF.size
                have hkI2 : (i2 : Int) < (p.ks.length : Int) := by omega
                clear hB hF hP hft2 hfs2 hr0 hr1 hrT hTr hk1'
                go_wp2_with (first
                  | (go_at_call 26; refine (HQ1.out _ HFr0.out.upw').mono ?_; rintro er1 vr1x ⟨br1, gr1, rfl, hvr1, Gr1⟩; have HVr1 := hide hvr1; have HCr1 := hide (HBr0.out.fr Gr1); have dr1 := HPr0.out.fr Gr1; have ycr10 := dr1.k0; have ycr11 := dr1.k1; have ycr12 := dr1.k2; have ycr13 := dr1.k3; have ycr14 := dr1.k4; have ycr15 := dr1.k5; have ycr16 := dr1.k6; have HEr1 := hide dr1; have HGr1 := hide (HFr0.out.trans Gr1 (fun _ _ e => e)); have hyr1 : w.heap.size ≤ vr1x.heap.size := HGr1.out.size; clear hvr1 Gr1 dr1)
                  | (at_builtin; refine wpList_appC rfl _ _ rfl w.heap.size _ r0 rfl HCr1.out _ _ k1 rfl HVr1.out pk1 (by omega) hyr1 r1 HR1.out ?_; intro arr1 crr1 wr1x hbr1 Fr1; have dr1 := HEr1.out.fw Fr1; have yr10 := dr1.k0; have yr11 := dr1.k1; have yr12 := dr1.k2; have yr13 := dr1.k3; have yr14 := dr1.k4; have yr15 := dr1.k5; have yr16 := dr1.k6; have HBr1 := hide hbr1; have HFr1 := hide (fw_new Fr1 HGr1.out); have HPr1 := hide dr1; have hzr1 : w.heap.size ≤ wr1x.heap.size := HFr1.out.size; clear hbr1 Fr1 dr1))
                exact ⟨⟨i2 + 1, arr1, crr1, by go_num, hil2, by rw [← HRT.out], by rw [← HRT.out]; exact HBr1.out, HFr1.out, HPr1.out⟩, by simp [intOf]; omega⟩
              · have e : i2 = p.ks.length := by omega
                subst e
                rw [List.take_length, ← HJ8.out] at hB ⊢
                have HBE7 := hide hB
                have HFE7 := hide hF
                have HPE7 := hide hP
                have hil2' : ¬ ((p.ks.length : Int) < (p.ks.length : Int)) := by omega
                clear hB hF hP hil2
                go_wp2_with (first
                  | (go_at_call_of 22 (Value.int IntKind.i64 (p.ns.length : Int)); refine (HK9.out _).mono ?_; rintro e9 v9x ⟨b9, g9, rfl, hv9, G9⟩; have HV9 := hide hv9; have HC9 := hide (HBE7.out.fr G9); have d9 := HPE7.out.fr G9; have yc90 := d9.k0; have yc91 := d9.k1; have yc92 := d9.k2; have yc93 := d9.k3; have yc94 := d9.k4; have yc95 := d9.k5; have yc96 := d9.k6; have HE9 := hide d9; have HG9 := hide (HFE7.out.trans G9 (fun _ _ e => e)); have hy9 : w.heap.size ≤ v9x.heap.size := HG9.out.size; clear hv9 G9 d9)
                  | (at_builtin; refine wpList_appC rfl _ _ rfl w.heap.size _ j8 rfl HC9.out _ _ n9 rfl HV9.out pn9 (by omega) hy9 j9 HJ9.out ?_; intro ar9 cr9 w9x hb9 F9; have d9 := HE9.out.fw F9; have y90 := d9.k0; have y91 := d9.k1; have y92 := d9.k2; have y93 := d9.k3; have y94 := d9.k4; have y95 := d9.k5; have y96 := d9.k6; have HB9 := hide hb9; have HF9 := hide (fw_new F9 HG9.out); have HP9 := hide d9; have hz9 : w.heap.size ≤ w9x.heap.size := HF9.out.size; clear hb9 F9 d9))
                go_loopw [4, 9] (fun bv u wr => ∃ (i2 : Nat) (a : Option Addr) (c : Nat), u = .int .i64 (i2 : Int) ∧ i2 ≤ p.ns.length ∧ bv = .slice a (j9 ++ (p.ns.take i2).flatMap txtB).length c ∧ ByAt wr w.heap.size (.slice a (j9 ++ (p.ns.take i2).flatMap txtB).length c) (j9 ++ (p.ns.take i2).flatMap txtB) ∧ Fr (fun _ => False) w wr ∧ PBx wr pb (.string p.nm) (.int .i64 p.args) (.int .i64 p.free) (.bool p.rest) (.slice co p.code.length cc) (.slice ka p.ks.length kc) (.slice na p.ns.length nc)) (fun _ u _ => p.ns.length - (intOf u).toNat)
                case atStart => exact ⟨0, ar9, cr9, rfl, Nat.zero_le _, by simp, by simpa using HB9.out, HF9.out, HP9.out⟩
                case round =>
                  obtain ⟨i2, ai, ci, rfl, hi2, rfl, hB, hF, hP⟩ := hrel
                  have yy0 := hP.k0
                  have yy1 := hP.k1
                  have yy2 := hP.k2
                  have yy3 := hP.k3
                  have yy4 := hP.k4
                  have yy5 := hP.k5
                  have yy6 := hP.k6
                  by_cases hil2 : i2 < p.ns.length
                  · obtain ⟨g2, off2, ea, d0⟩ : ∃ g off, na = some ⟨g, off, none⟩ ∧ wr.cell? ⟨g, off + i2, none⟩ = some (.string p.ns[i2]) := by
                      rcases (HNS.out.up hF.upw').2.2 with e | ⟨g, off, ea, hc⟩
                      · omega
                      · exact ⟨g, off, ea, hc i2 hil2⟩
                    subst ea
                    have hft2 := flat_take_le txtB p.ns (i2 + 1)
                    rw [flat_take_succ txtB p.ns i2 hil2, List.length_append] at hft2
                    have hfs2 := flat_take_succ txtB p.ns i2 hil2
                    obtain ⟨r0, hr0⟩ : ∃ l, l = (j9 ++ (p.ns.take i2).flatMap txtB) := ⟨_, rfl⟩
                    obtain ⟨rT, hrT⟩ : ∃ l, l = (j9 ++ (p.ns.take (i2 + 1)).flatMap txtB) := ⟨_, rfl⟩
                    rw [← hr0] at hB ⊢
                    obtain ⟨k1, hk1'⟩ : ∃ l, l = txtB p.ns[i2] := ⟨_, rfl⟩
                    have pk1 : 0 < k1.length := by rw [hk1']; exact txtB_pos _
                    obtain ⟨r1, hr1⟩ : ∃ l, l = r0 ++ k1 := ⟨_, rfl⟩
                    have zr1 : r0.length + k1.length = r1.length := by rw [hr1, List.length_append]
                    have hTr : rT = r1 := by rw [hrT, hr1, hr0, hfs2, hk1', List.append_assoc]
                    have zrT : r1.length ≤ 900000000 := by
                      rw [← hTr, hrT, hfs2]
                      simp only [List.length_append]
                      omega
                    have zk1 : k1.length ≤ 900000000 := by omega
                    have hsz : p.ns[i2].size ≤ 900000000 := by
                      have h1 := byL_len p.ns[i2]
                      have h2 : k1.length = (numB p.ns[i2].size).length + (byL p.ns[i2].data.toList).length := by rw [hk1', txtB, List.length_append]
                      omega
                    have HQ1 := hide (fun (W : World) => show Calls Try.prog 23 #[.string p.ns[i2]] W fun e w' => BEnd W k1 e w' by rw [hk1']; exact rsome_any p.ns[i2] W hsz)
                    have HRT : Hid (r1 = (j9 ++ (p.ns.take (i2 + 1)).flatMap txtB)) := by unfold Hid; rw [← hTr, hrT]
                    have HR1 := hide hr1
                    have HBr0 := hide hB
                    have HFr0 := hide hF
                    have HPr0 := hide hP
                    have hzi : w.heap.size ≤ wr.heap.size := hF.size
                    have hkI2 : (i2 : Int) < (p.ns.length : Int) := by omega
                    clear hB hF hP hft2 hfs2 hr0 hr1 hrT hTr hk1'
                    go_wp2_with (first
                      | (go_at_call 23; refine (HQ1.out _).mono ?_; rintro er1 vr1x ⟨br1, gr1, rfl, hvr1, Gr1⟩; have HVr1 := hide hvr1; have HCr1 := hide (HBr0.out.fr Gr1); have dr1 := HPr0.out.fr Gr1; have ycr10 := dr1.k0; have ycr11 := dr1.k1; have ycr12 := dr1.k2; have ycr13 := dr1.k3; have ycr14 := dr1.k4; have ycr15 := dr1.k5; have ycr16 := dr1.k6; have HEr1 := hide dr1; have HGr1 := hide (HFr0.out.trans Gr1 (fun _ _ e => e)); have hyr1 : w.heap.size ≤ vr1x.heap.size := HGr1.out.size; clear hvr1 Gr1 dr1)
                      | (at_builtin; refine wpList_appC rfl _ _ rfl w.heap.size _ r0 rfl HCr1.out _ _ k1 rfl HVr1.out pk1 (by omega) hyr1 r1 HR1.out ?_; intro arr1 crr1 wr1x hbr1 Fr1; have dr1 := HEr1.out.fw Fr1; have yr10 := dr1.k0; have yr11 := dr1.k1; have yr12 := dr1.k2; have yr13 := dr1.k3; have yr14 := dr1.k4; have yr15 := dr1.k5; have yr16 := dr1.k6; have HBr1 := hide hbr1; have HFr1 := hide (fw_new Fr1 HGr1.out); have HPr1 := hide dr1; have hzr1 : w.heap.size ≤ wr1x.heap.size := HFr1.out.size; clear hbr1 Fr1 dr1))
                    exact ⟨⟨i2 + 1, arr1, crr1, by go_num, hil2, by rw [← HRT.out], by rw [← HRT.out]; exact HBr1.out, HFr1.out, HPr1.out⟩, by simp [intOf]; omega⟩
                  · have e : i2 = p.ns.length := by omega
                    subst e
                    rw [List.take_length, ← HJE.out] at hB ⊢
                    have HBE9 := hide hB
                    have HFE9 := hide hF
                    have HPE9 := hide hP
                    have hil2' : ¬ ((p.ns.length : Int) < (p.ns.length : Int)) := by omega
                    clear hB hF hP hil2
                    go_wp2
                    go_roundg (ps.length - (i + 1))
                    case measure => have := HKG.out; omega
                    case rel => exact ⟨i + 1, ai, ci, by go_num, hil, rfl, by rw [← HJT.out], by rw [← HJT.out]; exact HBE9.out, HFE9.out⟩
      · have e : i = ps.length := by omega
        subst e
        rw [List.take_length, ← HT2.out] at hB ⊢
        have HBE := hide hB
        have HFE := hide hF
        have hil' : ¬ ((ps.length : Int) < (ps.length : Int)) := by omega
        clear hB hF hil
        go_wp2
        go_ret2
        refine ⟨.slice ai T.length ci, ?_, ?_, HFE.out⟩
        · rw [HM.out]; rfl
        · rw [HM.out]; show ByAt _ _ _ (pgB ps); rw [← HT.out]; exact HBE.out
  · have hm' : mayW ps = false := by simpa using hm
    have HE : Hid (mayW ps = false) := hm'
    have HRt := hide hRt
    rw [hm'] at HRt
    clear hm hm' hr hl hRt
    go_enter Try.func10, Try.ntmps10
    go_wp2_with (go_at_call 21; refine HRt.out.mono ?_; rintro e1 w1 ⟨rfl, F1⟩; have HF1 := hide F1; clear F1)
    go_ret2
    refine ⟨.slice none 0 0, ?_, ?_, HF1.out⟩
    · rw [HE.out]; rfl
    · rw [HE.out]; exact World.ownsRow_nil _ _ _ _

end Go.Proofs.Ytilcigjhogcjkaa
