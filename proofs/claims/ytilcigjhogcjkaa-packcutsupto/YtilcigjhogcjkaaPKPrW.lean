/-
  What is proved here: a writer's proto (package pack): just a proto's bytes.
-/
import Derived.Test.YtilcigjhogcjkaaPKPro
namespace Go.Proofs.Ytilcigjhogcjkaa
open Go Go.RowKit

set_option maxRecDepth 100000 in
set_option maxHeartbeats 4000000 in
theorem wproto_any {N : Nat} (w0 w : World) (wb : Nat) (out : List Nat) (p : PC N) (c0 c1 c2 c3 c4 c5 c6 : Value) (hp : PCell w0 p [c0, c1, c2, c3, c4, c5, c6]) (hU : Up w0 w) (hW : WO w0.heap.size w wb out) (hg : goodP p = true) (hl : (out ++ proB p).length ≤ 1000000000) :
    Calls Try.prog 41 #[.pointer (some ⟨wb, 0, none⟩), .agg #[c0, c1, c2, c3, c4, c5, c6]] w fun e w' => WEnd w0.heap.size w wb (out ++ proB p) e w' := by
  obtain ⟨co, cc, ka, kc, na, nc, e, hco, hks, hns⟩ := hp
  cases e
  simp only [goodP, Bool.and_eq_true] at hg
  obtain ⟨hg1, hg2, hg3, hg4⟩ := hg
  have hA := num_le hg1
  have hFr := num_le hg2
  have hc1 := hco.1
  have hc2 := hco.2.1
  have hn1 := hns.1
  have hn2 := hns.2.1
  obtain ⟨T, hT⟩ : ∃ T, T = out ++ proB p := ⟨_, rfl⟩
  rw [← hT] at hl ⊢
  obtain ⟨q1, hq1⟩ : ∃ q, q = out ++ txtB p.nm := ⟨_, rfl⟩
  obtain ⟨q2, hq2⟩ : ∃ q, q = q1 ++ numB p.args.toNat := ⟨_, rfl⟩
  obtain ⟨q3, hq3⟩ : ∃ q, q = q2 ++ flgB p.rest := ⟨_, rfl⟩
  obtain ⟨q4, hq4⟩ : ∃ q, q = q3 ++ numB p.free.toNat := ⟨_, rfl⟩
  obtain ⟨q5, hq5⟩ : ∃ q, q = q4 ++ numB p.code.length := ⟨_, rfl⟩
  obtain ⟨q6, hq6⟩ : ∃ q, q = q5 ++ p.code.flatMap insB := ⟨_, rfl⟩
  obtain ⟨q7, hq7⟩ : ∃ q, q = (q6 ++ numB p.ks.length) ++ p.ks.flatMap (datB N) := ⟨_, rfl⟩
  obtain ⟨q8, hq8⟩ : ∃ q, q = q7 ++ numB p.ns.length := ⟨_, rfl⟩
  have hT2 : T = q8 ++ p.ns.flatMap txtB := by
    rw [hT, hq8, hq7, hq6, hq5, hq4, hq3, hq2, hq1]
    simp [proB, List.append_assoc]
  have l8 : q8.length + (p.ns.flatMap txtB).length ≤ 1000000000 := by rw [hT2, List.length_append] at hl; exact hl
  have l7 : (q7 ++ numB p.ns.length).length ≤ 1000000000 := by rw [← hq8]; omega
  have l7' : q7.length ≤ 1000000000 := by rw [List.length_append] at l7; omega
  have l6 : q6.length ≤ 1000000000 := by rw [hq7] at l7'; simp only [List.length_append] at l7'; omega
  have l5 : q5.length + (p.code.flatMap insB).length ≤ 1000000000 := by rw [hq6, List.length_append] at l6; exact l6
  have l4 : (q4 ++ numB p.code.length).length ≤ 1000000000 := by rw [← hq5]; omega
  have l3 : (q3 ++ numB p.free.toNat).length ≤ 1000000000 := by rw [← hq4]; rw [List.length_append] at l4; omega
  have l2 : (q2 ++ flgB p.rest).length ≤ 1000000000 := by rw [← hq3]; rw [List.length_append] at l3; omega
  have l1 : (q1 ++ numB p.args.toNat).length ≤ 1000000000 := by rw [← hq2]; rw [List.length_append] at l2; omega
  have l0 : (out ++ txtB p.nm).length ≤ 1000000000 := by rw [← hq1]; rw [List.length_append] at l1; omega
  have HK1 := hide (fun (W : World) (hw : WO w0.heap.size W wb out) (hu : Up w0 W) => show Calls Try.prog 54 #[.pointer (some ⟨wb, 0, none⟩), .string p.nm] W fun e w' => WEnd w0.heap.size W wb q1 e w' by rw [hq1]; exact text_any w0.heap.size W wb out p.nm hw l0 hu.size)
  have HK2 := hide (fun (W : World) (hw : WO w0.heap.size W wb q1) (hu : Up w0 W) => show Calls Try.prog 40 #[.pointer (some ⟨wb, 0, none⟩), .int .i64 p.args] W fun e w' => WEnd w0.heap.size W wb q2 e w' by rw [hq2]; exact number_int w0.heap.size W wb q1 p.args hw hA.1 hA.2 l1 hu.size)
  have HK3 := hide (fun (W : World) (hw : WO w0.heap.size W wb q2) (hu : Up w0 W) => show Calls Try.prog 55 #[.pointer (some ⟨wb, 0, none⟩), .bool p.rest] W fun e w' => WEnd w0.heap.size W wb q3 e w' by rw [hq3]; exact flag_any w0.heap.size W wb q2 p.rest hw l2 hu.size)
  have HK4 := hide (fun (W : World) (hw : WO w0.heap.size W wb q3) (hu : Up w0 W) => show Calls Try.prog 40 #[.pointer (some ⟨wb, 0, none⟩), .int .i64 p.free] W fun e w' => WEnd w0.heap.size W wb q4 e w' by rw [hq4]; exact number_int w0.heap.size W wb q3 p.free hw hFr.1 hFr.2 l3 hu.size)
  have HK5 := hide (fun (W : World) (hw : WO w0.heap.size W wb q4) (hu : Up w0 W) => show Calls Try.prog 40 #[.pointer (some ⟨wb, 0, none⟩), .int .i64 (p.code.length : Int)] W fun e w' => WEnd w0.heap.size W wb q5 e w' by rw [hq5]; exact number_any w0.heap.size W wb q4 p.code.length hw (by omega) l4 hu.size)
  have HKI := hide (fun (i : Nat) (hi : i < p.code.length) => show (q5 ++ ((p.code.take i).flatMap insB ++ numB p.code[i].1.toNat)).length ≤ 1000000000 ∧ (q5 ++ ((p.code.take i).flatMap insB ++ (numB p.code[i].1.toNat ++ numB (sgnN p.code[i].2.1)))).length ≤ 1000000000 ∧ (q5 ++ ((p.code.take i).flatMap insB ++ insB p.code[i])).length ≤ 1000000000 by
    have h2 := flat_take_le insB p.code (i + 1)
    rw [flat_take_succ insB p.code i hi] at h2
    simp only [insB, List.length_append] at h2 ⊢
    omega)
  have HK7 := hide (fun (W : World) (hw : WO w0.heap.size W wb q6) (hu : Up w0 W) => show Calls Try.prog 57 #[.pointer (some ⟨wb, 0, none⟩), .slice ka p.ks.length kc] W fun e w' => WEnd w0.heap.size W wb q7 e w' from wdata_of (wdatum_all N) w0 W wb q6 p.ks (.slice ka p.ks.length kc) 100 hks hu hw hg4 q7 hq7 l7')
  have HK8 := hide (fun (W : World) (hw : WO w0.heap.size W wb q7) (hu : Up w0 W) => show Calls Try.prog 40 #[.pointer (some ⟨wb, 0, none⟩), .int .i64 (p.ns.length : Int)] W fun e w' => WEnd w0.heap.size W wb q8 e w' by rw [hq8]; exact number_any w0.heap.size W wb q7 p.ns.length hw (by omega) l7 hu.size)
  have HKN := hide (fun (W : World) (i : Nat) (hi : i < p.ns.length) (hw : WO w0.heap.size W wb (q8 ++ (p.ns.take i).flatMap txtB)) (hu : Up w0 W) => show Calls Try.prog 54 #[.pointer (some ⟨wb, 0, none⟩), .string p.ns[i]] W fun e w' => WEnd w0.heap.size W wb (q8 ++ (p.ns.take (i + 1)).flatMap txtB) e w' by
    have h2 := flat_take_le txtB p.ns (i + 1)
    rw [flat_take_succ txtB p.ns i hi] at h2
    have := text_any w0.heap.size W wb (q8 ++ (p.ns.take i).flatMap txtB) p.ns[i] hw (by simp only [List.length_append] at h2 ⊢; omega) hu.size
    rw [List.append_assoc, ← flat_take_succ txtB p.ns i hi] at this
    exact this)
  have HGI : Hid (∀ i (hi : i < p.code.length), goodI p.code[i] = true) := fun i hi => List.all_eq_true.1 hg3 _ (List.getElem_mem hi)
  have HT2 := hide hT2
  have HQ6 := hide hq6
  have HU := hide hU
  have HCO := hide hco
  have HNS := hide hns
  have HB0 : Hid (PBx (w.alloc (.cells #[.string p.nm, .int .i64 p.args, .int .i64 p.free, .bool p.rest, .slice co p.code.length cc, .slice ka p.ks.length kc, .slice na p.ns.length nc] 48)) w.heap.size (.string p.nm) (.int .i64 p.args) (.int .i64 p.free) (.bool p.rest) (.slice co p.code.length cc) (.slice ka p.ks.length kc) (.slice na p.ns.length nc)) := hide (heap_alloc_new w _)
  have HW0 : Hid (WO w0.heap.size (w.alloc (.cells #[.string p.nm, .int .i64 p.args, .int .i64 p.free, .bool p.rest, .slice co p.code.length cc, .slice ka p.ks.length kc, .slice na p.ns.length nc] 48)) wb out) := hide (hW.keep ((Fr.refl _ _).alloc _))
  have HF0 : Hid (FW w0.heap.size w (w.alloc (.cells #[.string p.nm, .int .i64 p.args, .int .i64 p.free, .bool p.rest, .slice co p.code.length cc, .slice ka p.ks.length kc, .slice na p.ns.length nc] 48))) := hide (FW.of ((Fr.refl _ _).alloc _))
  clear hW hU hl hg1 hg2 hg3 hg4 hA hFr hT hT2 hq1 hq2 hq3 hq4 hq5 hq6 hq7 hq8 l0 l1 l2 l3 l4 l5 l6 l7 l7' l8 hks hco hns
  go_enter Try.func41, Try.ntmps41
  go_wp2_with (first
    | (go_at_call 54; refine (HK1.out _ HW0.out (HF0.out.up HU.out)).mono ?_; rintro e1 x1 ⟨rfl, hw1, F1⟩; have b1 := HB0.out.fw F1; have u10 := b1.k0; have u11 := b1.k1; have u12 := b1.k2; have u13 := b1.k3; have u14 := b1.k4; have u15 := b1.k5; have u16 := b1.k6; have HW1 := hide hw1; have HF1 := hide (HF0.out.trans F1); have HB1 := hide b1; clear hw1 F1 b1)
    | (go_at_call_of 40 (Value.int IntKind.i64 p.args); refine (HK2.out _ HW1.out (HF1.out.up HU.out)).mono ?_; rintro e2 x2 ⟨rfl, hw2, F2⟩; have b2 := HB1.out.fw F2; have u20 := b2.k0; have u21 := b2.k1; have u22 := b2.k2; have u23 := b2.k3; have u24 := b2.k4; have u25 := b2.k5; have u26 := b2.k6; have HW2 := hide hw2; have HF2 := hide (HF1.out.trans F2); have HB2 := hide b2; clear hw2 F2 b2)
    | (go_at_call 55; refine (HK3.out _ HW2.out (HF2.out.up HU.out)).mono ?_; rintro e3 x3 ⟨rfl, hw3, F3⟩; have b3 := HB2.out.fw F3; have u30 := b3.k0; have u31 := b3.k1; have u32 := b3.k2; have u33 := b3.k3; have u34 := b3.k4; have u35 := b3.k5; have u36 := b3.k6; have HW3 := hide hw3; have HF3 := hide (HF2.out.trans F3); have HB3 := hide b3; clear hw3 F3 b3)
    | (go_at_call_of 40 (Value.int IntKind.i64 p.free); refine (HK4.out _ HW3.out (HF3.out.up HU.out)).mono ?_; rintro e4 x4 ⟨rfl, hw4, F4⟩; have b4 := HB3.out.fw F4; have u40 := b4.k0; have u41 := b4.k1; have u42 := b4.k2; have u43 := b4.k3; have u44 := b4.k4; have u45 := b4.k5; have u46 := b4.k6; have HW4 := hide hw4; have HF4 := hide (HF3.out.trans F4); have HB4 := hide b4; clear hw4 F4 b4)
    | (go_at_call_of 40 (Value.int IntKind.i64 (p.code.length : Int)); refine (HK5.out _ HW4.out (HF4.out.up HU.out)).mono ?_; rintro e5 x5 ⟨rfl, hw5, F5⟩; have b5 := HB4.out.fw F5; have u50 := b5.k0; have u51 := b5.k1; have u52 := b5.k2; have u53 := b5.k3; have u54 := b5.k4; have u55 := b5.k5; have u56 := b5.k6; have HW5 := hide hw5; have HF5 := hide (HF4.out.trans F5); have HB5 := hide b5; clear hw5 F5 b5))
  clear HW0 HF0 HB0 HW1 HF1 HB1 HW2 HF2 HB2 HW3 HF3 HB3 HW4 HF4 HB4 HK1 HK2 HK3 HK4 HK5 u10 u11 u12 u13 u14 u15 u16 u20 u21 u22 u23 u24 u25 u26 u30 u31 u32 u33 u34 u35 u36 u40 u41 u42 u43 u44 u45 u46 u50 u51 u52 u53 u54 u55 u56
  go_loopw [32] (fun u wr => ∃ i : Nat, u = .int .i64 (i : Int) ∧ i ≤ p.code.length ∧ WO w0.heap.size wr wb (q5 ++ (p.code.take i).flatMap insB) ∧ FW w0.heap.size w wr ∧ PBx wr w.heap.size (.string p.nm) (.int .i64 p.args) (.int .i64 p.free) (.bool p.rest) (.slice co p.code.length cc) (.slice ka p.ks.length kc) (.slice na p.ns.length nc)) (fun u _ => p.code.length - (intOf u).toNat)
  case atStart => exact ⟨0, rfl, Nat.zero_le _, by simpa using HW5.out, HF5.out, HB5.out⟩
  case round =>
    clear HW5 HF5 HB5
    obtain ⟨i, rfl, hi, hW, hF, hB⟩ := hrel
    by_cases hil : i < p.code.length
    · have hG := HGI.out i hil
      have hLb := HKI.out i hil
      have hfs := flat_take_succ insB p.code i hil
      obtain ⟨g, off, ea, d0, d1, d2⟩ : ∃ g off, co = some ⟨g, off, none⟩ ∧ wr.cell? ⟨g, off + i * 3, none⟩ = some (.int .i64 p.code[i].1) ∧ wr.cell? ⟨g, off + i * 3 + 1, none⟩ = some (.int .i64 p.code[i].2.1) ∧ wr.cell? ⟨g, off + i * 3 + 2, none⟩ = some (.int .i64 p.code[i].2.2) := by
        rcases (HCO.out.up (hF.up HU.out)).2.2 with e | ⟨g, off, ea, hc⟩
        · omega
        · exact ⟨g, off, ea, hc i hil⟩
      subst ea
      generalize p.code[i] = x at *
      simp only [goodI, Bool.and_eq_true] at hG
      have hx0 := num_le hG.1
      have hx1 := half_le hG.2.1
      have hx2 := half_le hG.2.2
      obtain ⟨r0, hr0⟩ : ∃ r, r = q5 ++ (p.code.take i).flatMap insB := ⟨_, rfl⟩
      rw [← hr0] at hW
      obtain ⟨r1, hr1⟩ : ∃ r, r = r0 ++ numB x.1.toNat := ⟨_, rfl⟩
      obtain ⟨r2, hr2⟩ : ∃ r, r = r1 ++ numB (sgnN x.2.1) := ⟨_, rfl⟩
      obtain ⟨r3, hr3⟩ : ∃ r, r = r2 ++ numB (sgnN x.2.2) := ⟨_, rfl⟩
      have t1 : (r0 ++ numB x.1.toNat).length ≤ 1000000000 := by rw [hr0, List.append_assoc]; exact hLb.1
      have t2 : (r1 ++ numB (sgnN x.2.1)).length ≤ 1000000000 := by rw [hr1, hr0, List.append_assoc, List.append_assoc]; exact hLb.2.1
      have t3 : (r2 ++ numB (sgnN x.2.2)).length ≤ 1000000000 := by rw [hr2, hr1, hr0]; have := hLb.2.2; simp only [insB, List.append_assoc] at this ⊢; exact this
      have HR3 : Hid (q5 ++ (p.code.take (i + 1)).flatMap insB = r3) := by unfold Hid; rw [hr3, hr2, hr1, hr0, hfs]; simp [insB, List.append_assoc]
      have HJ1 := hide (fun (W : World) (hw : WO w0.heap.size W wb r0) (hu : Up w0 W) => show Calls Try.prog 40 #[.pointer (some ⟨wb, 0, none⟩), .int .i64 x.1] W fun e w' => WEnd w0.heap.size W wb r1 e w' by rw [hr1]; exact number_int w0.heap.size W wb r0 x.1 hw hx0.1 hx0.2 t1 hu.size)
      have HJ2 := hide (fun (W : World) (hw : WO w0.heap.size W wb r1) (hu : Up w0 W) => show Calls Try.prog 56 #[.pointer (some ⟨wb, 0, none⟩), .int .i64 x.2.1] W fun e w' => WEnd w0.heap.size W wb r2 e w' by rw [hr2]; exact signed_any w0.heap.size W wb r1 x.2.1 hw hx1.1 hx1.2 t2 hu.size)
      have HJ3 := hide (fun (W : World) (hw : WO w0.heap.size W wb r2) (hu : Up w0 W) => show Calls Try.prog 56 #[.pointer (some ⟨wb, 0, none⟩), .int .i64 x.2.2] W fun e w' => WEnd w0.heap.size W wb r3 e w' by rw [hr3]; exact signed_any w0.heap.size W wb r2 x.2.2 hw hx2.1 hx2.2 t3 hu.size)
      have HV0 : Hid (IBx (wr.alloc (.cells #[.int .i64 x.1, .int .i64 x.2.1, .int .i64 x.2.2] 50)) wr.heap.size (.int .i64 x.1) (.int .i64 x.2.1) (.int .i64 x.2.2)) := hide (heap_alloc_new wr _)
      have HX0 : Hid (WO w0.heap.size (wr.alloc (.cells #[.int .i64 x.1, .int .i64 x.2.1, .int .i64 x.2.2] 50)) wb r0) := hide (hW.keep ((Fr.refl _ _).alloc _))
      have HY0 : Hid (FW w0.heap.size wr (wr.alloc (.cells #[.int .i64 x.1, .int .i64 x.2.1, .int .i64 x.2.2] 50))) := hide (FW.of ((Fr.refl _ _).alloc _))
      have HF := hide hF
      have HB := hide hB
      clear hW hF hB hG hLb hfs hx0 hx1 hx2 hr0 hr1 hr2 hr3 t1 t2 t3
      go_wp2_with (first
        | (go_at_call_of 40 (Value.int IntKind.i64 x.1); refine (HJ1.out _ HX0.out (HY0.out.up (HF.out.up HU.out))).mono ?_; rintro e1 x1 ⟨rfl, hw1, F1⟩; have b1 := HV0.out.fw F1; have t10 := b1.k0; have t11 := b1.k1; have t12 := b1.k2; have HX1 := hide hw1; have HY1 := hide (HY0.out.trans F1); have HV1 := hide b1; clear hw1 F1 b1)
        | (go_at_call_of 56 (Value.int IntKind.i64 x.2.1); refine (HJ2.out _ HX1.out (HY1.out.up (HF.out.up HU.out))).mono ?_; rintro e2 x2 ⟨rfl, hw2, F2⟩; have b2 := HV1.out.fw F2; have t20 := b2.k0; have t21 := b2.k1; have t22 := b2.k2; have HX2 := hide hw2; have HY2 := hide (HY1.out.trans F2); have HV2 := hide b2; clear hw2 F2 b2)
        | (go_at_call_of 56 (Value.int IntKind.i64 x.2.2); refine (HJ3.out _ HX2.out (HY2.out.up (HF.out.up HU.out))).mono ?_; rintro e3 x3 ⟨rfl, hw3, F3⟩; have b3 := HV2.out.fw F3; have t30 := b3.k0; have t31 := b3.k1; have t32 := b3.k2; have HX3 := hide hw3; have HY3 := hide (HY2.out.trans F3); have HV3 := hide b3; clear hw3 F3 b3))
      exact ⟨⟨i + 1, by go_num, hil, by rw [HR3.out]; exact HX3.out, HF.out.trans HY3.out, HB.out.fw HY3.out⟩, by simp [intOf]; omega⟩
    · have e : i = p.code.length := by omega
      subst e
      rw [List.take_length, ← HQ6.out] at hW
      have HW6 := hide hW
      have HF6 := hide hF
      have HB6 := hide hB
      have hil' : ¬ ((p.code.length : Int) < (p.code.length : Int)) := by omega
      have v0 := hB.k0
      have v4 := hB.k4
      have v5 := hB.k5
      have v6 := hB.k6
      clear hW hF hB hil hi
      go_wp2_with (first
        | (go_at_call 57; refine (HK7.out _ HW6.out (HF6.out.up HU.out)).mono ?_; rintro e7 x7 ⟨rfl, hw7, F7⟩; have b7 := HB6.out.fw F7; have u70 := b7.k0; have u71 := b7.k1; have u72 := b7.k2; have u73 := b7.k3; have u74 := b7.k4; have u75 := b7.k5; have u76 := b7.k6; have HW7 := hide hw7; have HF7 := hide (HF6.out.trans F7); have HB7 := hide b7; clear hw7 F7 b7)
        | (go_at_call_of 40 (Value.int IntKind.i64 (p.ns.length : Int)); refine (HK8.out _ HW7.out (HF7.out.up HU.out)).mono ?_; rintro e8 x8 ⟨rfl, hw8, F8⟩; have b8 := HB7.out.fw F8; have u80 := b8.k0; have u81 := b8.k1; have u82 := b8.k2; have u83 := b8.k3; have u84 := b8.k4; have u85 := b8.k5; have u86 := b8.k6; have HW8 := hide hw8; have HF8 := hide (HF7.out.trans F8); have HB8 := hide b8; clear hw8 F8 b8))
      clear HW6 HF6 HB6 HW7 HF7 HB7 HK7 HK8
      go_loopw [61] (fun u wr => ∃ i : Nat, u = .int .i64 (i : Int) ∧ i ≤ p.ns.length ∧ WO w0.heap.size wr wb (q8 ++ (p.ns.take i).flatMap txtB) ∧ FW w0.heap.size w wr) (fun u _ => p.ns.length - (intOf u).toNat)
      case atStart => exact ⟨0, rfl, Nat.zero_le _, by simpa using HW8.out, HF8.out⟩
      case round =>
        clear HW8 HF8 HB8
        obtain ⟨i, rfl, hi, hW, hF⟩ := hrel
        by_cases hil : i < p.ns.length
        · obtain ⟨g, off, ea, d0⟩ : ∃ g off, na = some ⟨g, off, none⟩ ∧ wr.cell? ⟨g, off + i, none⟩ = some (.string p.ns[i]) := by
            rcases (HNS.out.up (hF.up HU.out)).2.2 with e | ⟨g, off, ea, hc⟩
            · omega
            · exact ⟨g, off, ea, hc i hil⟩
          subst ea
          have HK := hide (HKN.out wr i hil hW (hF.up HU.out))
          have HF := hide hF
          clear hW hF
          generalize p.ns[i] = sx at *
          go_wp2_with (go_at_call 54; refine HK.out.mono ?_; rintro e9 w9 ⟨rfl, hw9, F9⟩)
          exact ⟨⟨i + 1, by go_num, hil, hw9, HF.out.trans F9⟩, by simp [intOf]; omega⟩
        · have e : i = p.ns.length := by omega
          subst e
          rw [List.take_length] at hW
          have HW := hide hW
          have HF := hide hF
          have hil' : ¬ ((p.ns.length : Int) < (p.ns.length : Int)) := by omega
          clear hW hF hil
          go_wp2
          exact bodyPost_end (results_none rfl _ _ _) rfl ⟨rfl, by rw [HT2.out]; exact HW.out, HF.out⟩

end Go.Proofs.Ytilcigjhogcjkaa
