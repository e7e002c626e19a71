/-
  What is proved here: the document's own bytes of a datum (tandemref10.datum), for data of any height that may be written.
-/
import Derived.Test.YtilcigjhogcjkaaRPNum
namespace Go.Proofs.Ytilcigjhogcjkaa
open Go Go.RowKit

def RDOK (h : Nat) : Prop := ∀ (w0 w : World) (d : Tr h) (c0 c1 c2 c3 c4 c5 c6 : Value) (dp : Nat), DatC w0 h d [c0, c1, c2, c3, c4, c5, c6] → Up w0 w → goodD h dp d = true → (datB h d).length ≤ 900000000 →
  Calls Try.prog 26 #[.agg #[c0, c1, c2, c3, c4, c5, c6]] w fun e w' => BEnd w (datB h d) e w'
theorem DBx.upB {w w' : World} {B C : Nat} {c0 c1 c2 c3 c4 c5 c6 : Value} (h : DBx w B c0 c1 c2 c3 c4 c5 c6) (hf : FW C w w') : DBx w' B c0 c1 c2 c3 c4 c5 c6 := h.fw hf
/-- Rows of bytes put one behind the other, by a name. -/
theorem wpList_appC {w : World} {ops : Array Oper} {rest : List Oper} {o : Oper} {a : Act} {Q : Exit → Act → World → Prop} (hgd : o.guard = none) (s x : Operand) (ho : o.op = .call { callee := .builtin .append, args := #[s, x], argTypes := #[23, 23] })
    (B : Nat) (v : Value) (l : List Nat) (hs : a.eval s = v) (h : ByAt w B v l) (B2 : Nat) (v2 : Value) (l2 : List Nat) (hx : a.eval x = v2) (h2 : ByAt w B2 v2 l2) (hne : 0 < l2.length) (hbd : l.length + l2.length ≤ 1000000000) (hbase : B ≤ w.heap.size) (ll : List Nat) (hll : ll = l ++ l2)
    (hK : ∀ ao cap w', ByAt w' B (.slice ao ll.length cap) ll → FW B w w' → wpList Try.prog ops Q rest (a.put o.dst (.slice ao ll.length cap)) w') : wpList Try.prog ops Q (o :: rest) a w := by
  subst hll
  exact wpList_appB hgd s x ho B v l hs h B2 v2 l2 hx h2 hne hbd hbase hK
theorem datB_pos (h : Nat) (d : Tr (h + 1)) : 0 < (datB (h + 1) d).length := by
  obtain ⟨k, n, b, L, t, I, R⟩ := d
  have := numB_pos k.toNat
  simp only [datB, List.length_append]
  omega

set_option maxRecDepth 100000 in
set_option maxHeartbeats 2000000 in
theorem rdatum_2 {h : Nat} (_hC : RDOK h) (w0 w : World) (n : Int) (b : Bool) (L : List Nat) (t : ByteArray) (I R : List (Tr h)) (a1 a2 a3 : Option Addr) (p1 p2 p3 dp : Nat) (_hM : Sl .u32 w0 (.slice a1 L.length p1) L.length (fun i => L.getD i 0)) (_hlim : ∀ i, i < L.length → L.getD i 0 < 4294967296) (_hI : RowD w0 (DatC w0 h) (.slice a2 I.length p2) I) (_hR : RowD w0 (DatC w0 h) (.slice a3 R.length p3) R) (_hR1 : R.length ≤ 1) (_hU : Up w0 w) (hn : -549755813888 ≤ n ∧ n ≤ 549755813888) (_hgI : I.all (goodD h dp) = true) (_hgR : R.all (goodD h dp) = true) (hl : (datB (h + 1) (2, n, b, L, t, I, R)).length ≤ 900000000) :
    Calls Try.prog 26 #[.agg #[.int .i64 2, .int .i64 n, .bool b, .slice a1 L.length p1, .string t, .slice a2 I.length p2, .slice a3 R.length p3]] w fun e w' => BEnd w (datB (h + 1) (2, n, b, L, t, I, R)) e w' := by
  have hE : datB (h + 1) (2, n, b, L, t, I, R) = (numB 2) ++ numB (sgnN n) := by
    simp [datB]
  rw [hE] at hl ⊢
  clear hE
  have HK0 := hide (fun (W : World) => show Calls Try.prog 22 #[.int .i64 2] W fun e w' => BEnd W (numB 2) e w' from rnum_any 2 W (by omega))
  obtain ⟨l0, hl0⟩ : ∃ l, l = numB 2 := ⟨_, rfl⟩
  rw [← hl0] at hl HK0 ⊢
  obtain ⟨m1, hm1⟩ : ∃ l, l = numB (sgnN n) := ⟨_, rfl⟩
  have hp1 : 0 < m1.length := by rw [hm1]; exact numB_pos _
  have HK1 := hide (fun (W : World) => show Calls Try.prog 25 #[.int .i64 n] W fun e w' => BEnd W m1 e w' by rw [hm1]; exact rsigned_any n W hn.1 hn.2)
  obtain ⟨l1, hl1⟩ : ∃ l, l = l0 ++ m1 := ⟨_, rfl⟩
  rw [← hm1, ← hl1] at hl ⊢
  have z1 : l1.length ≤ 900000000 := hl
  have x1 : l0.length + m1.length = l1.length := by rw [hl1, List.length_append]
  have HD : Hid (DBx (w.alloc (.cells #[.int .i64 2, .int .i64 n, .bool b, .slice a1 L.length p1, .string t, .slice a2 I.length p2, .slice a3 R.length p3] 64)) w.heap.size (.int .i64 2) (.int .i64 n) (.bool b) (.slice a1 L.length p1) (.string t) (.slice a2 I.length p2) (.slice a3 R.length p3)) := hide (heap_alloc_new w _)
  have HL1 := hide hl1
  clear _hM _hlim _hI _hR _hU _hgI _hgR _hC hl0 hm1 hl1
  go_enter Try.func26, Try.ntmps26
  go_wp2_with (first
    | (go_at_call_of 22 (Value.int IntKind.i64 2); refine (HK0.out _).mono ?_; rintro e0 w0x ⟨ar0, cr0, rfl, hb0, F0⟩; have d0 := HD.out.fr F0; have y00 := d0.k0; have y01 := d0.k1; have y02 := d0.k2; have y03 := d0.k3; have y04 := d0.k4; have y05 := d0.k5; have y06 := d0.k6; have HB0 := hide (hb0.mono (by simp : w.heap.size ≤ _)); have HF0 := hide (Fr.trans (S := fun _ => False) ((Fr.refl _ w).alloc _) F0 (fun _ _ e => e)); have HD0 := hide d0; have hz0 : w.heap.size ≤ w0x.heap.size := HF0.out.size; clear hb0 F0 d0)
    | (go_at_call 25; refine (HK1.out _).mono ?_; rintro e1 v1x ⟨b1, g1, rfl, hv1, G1⟩; have HV1 := hide hv1; have HC1 := hide (HB0.out.fr G1); have d1 := HD0.out.fr G1; have yc10 := d1.k0; have yc11 := d1.k1; have yc12 := d1.k2; have yc13 := d1.k3; have yc14 := d1.k4; have yc15 := d1.k5; have yc16 := d1.k6; have HE1 := hide d1; have HG1 := hide (HF0.out.trans G1 (fun _ _ e => e)); have hy1 : w.heap.size ≤ v1x.heap.size := HG1.out.size; clear hv1 G1 d1)
    | (at_builtin; refine wpList_appC rfl _ _ rfl w.heap.size _ l0 rfl HC1.out _ _ m1 rfl HV1.out hp1 (by omega) hy1 l1 HL1.out ?_; intro ar1 cr1 w1x hb1 F1; have d1 := HE1.out.upB F1; have y10 := d1.k0; have y11 := d1.k1; have y12 := d1.k2; have y13 := d1.k3; have y14 := d1.k4; have y15 := d1.k5; have y16 := d1.k6; have HB1 := hide hb1; have HF1 := hide (fw_new F1 HG1.out); have HD1 := hide d1; have hz1 : w.heap.size ≤ w1x.heap.size := HF1.out.size; clear hb1 F1 d1))
  go_ret
  exact ⟨ar1, cr1, rfl, HB1.out, HF1.out⟩

set_option maxRecDepth 100000 in
set_option maxHeartbeats 2000000 in
theorem rdatum_3 {h : Nat} (_hC : RDOK h) (w0 w : World) (n : Int) (b : Bool) (L : List Nat) (t : ByteArray) (I R : List (Tr h)) (a1 a2 a3 : Option Addr) (p1 p2 p3 dp : Nat) (_hM : Sl .u32 w0 (.slice a1 L.length p1) L.length (fun i => L.getD i 0)) (_hlim : ∀ i, i < L.length → L.getD i 0 < 4294967296) (_hI : RowD w0 (DatC w0 h) (.slice a2 I.length p2) I) (_hR : RowD w0 (DatC w0 h) (.slice a3 R.length p3) R) (_hR1 : R.length ≤ 1) (_hU : Up w0 w) (hn : -549755813888 ≤ n ∧ n ≤ 549755813888) (_hgI : I.all (goodD h dp) = true) (_hgR : R.all (goodD h dp) = true) (hl : (datB (h + 1) (3, n, b, L, t, I, R)).length ≤ 900000000) :
    Calls Try.prog 26 #[.agg #[.int .i64 3, .int .i64 n, .bool b, .slice a1 L.length p1, .string t, .slice a2 I.length p2, .slice a3 R.length p3]] w fun e w' => BEnd w (datB (h + 1) (3, n, b, L, t, I, R)) e w' := by
  have hE : datB (h + 1) (3, n, b, L, t, I, R) = (numB 3) ++ numB (sgnN n) := by
    simp [datB]
  rw [hE] at hl ⊢
  clear hE
  have HK0 := hide (fun (W : World) => show Calls Try.prog 22 #[.int .i64 3] W fun e w' => BEnd W (numB 3) e w' from rnum_any 3 W (by omega))
  obtain ⟨l0, hl0⟩ : ∃ l, l = numB 3 := ⟨_, rfl⟩
  rw [← hl0] at hl HK0 ⊢
  obtain ⟨m1, hm1⟩ : ∃ l, l = numB (sgnN n) := ⟨_, rfl⟩
  have hp1 : 0 < m1.length := by rw [hm1]; exact numB_pos _
  have HK1 := hide (fun (W : World) => show Calls Try.prog 25 #[.int .i64 n] W fun e w' => BEnd W m1 e w' by rw [hm1]; exact rsigned_any n W hn.1 hn.2)
  obtain ⟨l1, hl1⟩ : ∃ l, l = l0 ++ m1 := ⟨_, rfl⟩
  rw [← hm1, ← hl1] at hl ⊢
  have z1 : l1.length ≤ 900000000 := hl
  have x1 : l0.length + m1.length = l1.length := by rw [hl1, List.length_append]
  have HD : Hid (DBx (w.alloc (.cells #[.int .i64 3, .int .i64 n, .bool b, .slice a1 L.length p1, .string t, .slice a2 I.length p2, .slice a3 R.length p3] 64)) w.heap.size (.int .i64 3) (.int .i64 n) (.bool b) (.slice a1 L.length p1) (.string t) (.slice a2 I.length p2) (.slice a3 R.length p3)) := hide (heap_alloc_new w _)
  have HL1 := hide hl1
  clear _hM _hlim _hI _hR _hU _hgI _hgR _hC hl0 hm1 hl1
  go_enter Try.func26, Try.ntmps26
  go_wp2_with (first
    | (go_at_call_of 22 (Value.int IntKind.i64 3); refine (HK0.out _).mono ?_; rintro e0 w0x ⟨ar0, cr0, rfl, hb0, F0⟩; have d0 := HD.out.fr F0; have y00 := d0.k0; have y01 := d0.k1; have y02 := d0.k2; have y03 := d0.k3; have y04 := d0.k4; have y05 := d0.k5; have y06 := d0.k6; have HB0 := hide (hb0.mono (by simp : w.heap.size ≤ _)); have HF0 := hide (Fr.trans (S := fun _ => False) ((Fr.refl _ w).alloc _) F0 (fun _ _ e => e)); have HD0 := hide d0; have hz0 : w.heap.size ≤ w0x.heap.size := HF0.out.size; clear hb0 F0 d0)
    | (go_at_call 25; refine (HK1.out _).mono ?_; rintro e1 v1x ⟨b1, g1, rfl, hv1, G1⟩; have HV1 := hide hv1; have HC1 := hide (HB0.out.fr G1); have d1 := HD0.out.fr G1; have yc10 := d1.k0; have yc11 := d1.k1; have yc12 := d1.k2; have yc13 := d1.k3; have yc14 := d1.k4; have yc15 := d1.k5; have yc16 := d1.k6; have HE1 := hide d1; have HG1 := hide (HF0.out.trans G1 (fun _ _ e => e)); have hy1 : w.heap.size ≤ v1x.heap.size := HG1.out.size; clear hv1 G1 d1)
    | (at_builtin; refine wpList_appC rfl _ _ rfl w.heap.size _ l0 rfl HC1.out _ _ m1 rfl HV1.out hp1 (by omega) hy1 l1 HL1.out ?_; intro ar1 cr1 w1x hb1 F1; have d1 := HE1.out.upB F1; have y10 := d1.k0; have y11 := d1.k1; have y12 := d1.k2; have y13 := d1.k3; have y14 := d1.k4; have y15 := d1.k5; have y16 := d1.k6; have HB1 := hide hb1; have HF1 := hide (fw_new F1 HG1.out); have HD1 := hide d1; have hz1 : w.heap.size ≤ w1x.heap.size := HF1.out.size; clear hb1 F1 d1))
  go_ret
  exact ⟨ar1, cr1, rfl, HB1.out, HF1.out⟩

set_option maxRecDepth 100000 in
set_option maxHeartbeats 2000000 in
theorem rdatum_9 {h : Nat} (_hC : RDOK h) (w0 w : World) (n : Int) (b : Bool) (L : List Nat) (t : ByteArray) (I R : List (Tr h)) (a1 a2 a3 : Option Addr) (p1 p2 p3 dp : Nat) (_hM : Sl .u32 w0 (.slice a1 L.length p1) L.length (fun i => L.getD i 0)) (_hlim : ∀ i, i < L.length → L.getD i 0 < 4294967296) (_hI : RowD w0 (DatC w0 h) (.slice a2 I.length p2) I) (_hR : RowD w0 (DatC w0 h) (.slice a3 R.length p3) R) (_hR1 : R.length ≤ 1) (_hU : Up w0 w) (hn : -549755813888 ≤ n ∧ n ≤ 549755813888) (_hgI : I.all (goodD h dp) = true) (_hgR : R.all (goodD h dp) = true) (hl : (datB (h + 1) (9, n, b, L, t, I, R)).length ≤ 900000000) :
    Calls Try.prog 26 #[.agg #[.int .i64 9, .int .i64 n, .bool b, .slice a1 L.length p1, .string t, .slice a2 I.length p2, .slice a3 R.length p3]] w fun e w' => BEnd w (datB (h + 1) (9, n, b, L, t, I, R)) e w' := by
  have hE : datB (h + 1) (9, n, b, L, t, I, R) = (numB 9) ++ numB (sgnN n) := by
    simp [datB]
  rw [hE] at hl ⊢
  clear hE
  have HK0 := hide (fun (W : World) => show Calls Try.prog 22 #[.int .i64 9] W fun e w' => BEnd W (numB 9) e w' from rnum_any 9 W (by omega))
  obtain ⟨l0, hl0⟩ : ∃ l, l = numB 9 := ⟨_, rfl⟩
  rw [← hl0] at hl HK0 ⊢
  obtain ⟨m1, hm1⟩ : ∃ l, l = numB (sgnN n) := ⟨_, rfl⟩
  have hp1 : 0 < m1.length := by rw [hm1]; exact numB_pos _
  have HK1 := hide (fun (W : World) => show Calls Try.prog 25 #[.int .i64 n] W fun e w' => BEnd W m1 e w' by rw [hm1]; exact rsigned_any n W hn.1 hn.2)
  obtain ⟨l1, hl1⟩ : ∃ l, l = l0 ++ m1 := ⟨_, rfl⟩
  rw [← hm1, ← hl1] at hl ⊢
  have z1 : l1.length ≤ 900000000 := hl
  have x1 : l0.length + m1.length = l1.length := by rw [hl1, List.length_append]
  have HD : Hid (DBx (w.alloc (.cells #[.int .i64 9, .int .i64 n, .bool b, .slice a1 L.length p1, .string t, .slice a2 I.length p2, .slice a3 R.length p3] 64)) w.heap.size (.int .i64 9) (.int .i64 n) (.bool b) (.slice a1 L.length p1) (.string t) (.slice a2 I.length p2) (.slice a3 R.length p3)) := hide (heap_alloc_new w _)
  have HL1 := hide hl1
  clear _hM _hlim _hI _hR _hU _hgI _hgR _hC hl0 hm1 hl1
  go_enter Try.func26, Try.ntmps26
  go_wp2_with (first
    | (go_at_call_of 22 (Value.int IntKind.i64 9); refine (HK0.out _).mono ?_; rintro e0 w0x ⟨ar0, cr0, rfl, hb0, F0⟩; have d0 := HD.out.fr F0; have y00 := d0.k0; have y01 := d0.k1; have y02 := d0.k2; have y03 := d0.k3; have y04 := d0.k4; have y05 := d0.k5; have y06 := d0.k6; have HB0 := hide (hb0.mono (by simp : w.heap.size ≤ _)); have HF0 := hide (Fr.trans (S := fun _ => False) ((Fr.refl _ w).alloc _) F0 (fun _ _ e => e)); have HD0 := hide d0; have hz0 : w.heap.size ≤ w0x.heap.size := HF0.out.size; clear hb0 F0 d0)
    | (go_at_call 25; refine (HK1.out _).mono ?_; rintro e1 v1x ⟨b1, g1, rfl, hv1, G1⟩; have HV1 := hide hv1; have HC1 := hide (HB0.out.fr G1); have d1 := HD0.out.fr G1; have yc10 := d1.k0; have yc11 := d1.k1; have yc12 := d1.k2; have yc13 := d1.k3; have yc14 := d1.k4; have yc15 := d1.k5; have yc16 := d1.k6; have HE1 := hide d1; have HG1 := hide (HF0.out.trans G1 (fun _ _ e => e)); have hy1 : w.heap.size ≤ v1x.heap.size := HG1.out.size; clear hv1 G1 d1)
    | (at_builtin; refine wpList_appC rfl _ _ rfl w.heap.size _ l0 rfl HC1.out _ _ m1 rfl HV1.out hp1 (by omega) hy1 l1 HL1.out ?_; intro ar1 cr1 w1x hb1 F1; have d1 := HE1.out.upB F1; have y10 := d1.k0; have y11 := d1.k1; have y12 := d1.k2; have y13 := d1.k3; have y14 := d1.k4; have y15 := d1.k5; have y16 := d1.k6; have HB1 := hide hb1; have HF1 := hide (fw_new F1 HG1.out); have HD1 := hide d1; have hz1 : w.heap.size ≤ w1x.heap.size := HF1.out.size; clear hb1 F1 d1))
  go_ret
  exact ⟨ar1, cr1, rfl, HB1.out, HF1.out⟩

set_option maxRecDepth 100000 in
set_option maxHeartbeats 2000000 in
theorem rdatum_4 {h : Nat} (_hC : RDOK h) (w0 w : World) (n : Int) (b : Bool) (L : List Nat) (t : ByteArray) (I R : List (Tr h)) (a1 a2 a3 : Option Addr) (p1 p2 p3 dp : Nat) (_hM : Sl .u32 w0 (.slice a1 L.length p1) L.length (fun i => L.getD i 0)) (_hlim : ∀ i, i < L.length → L.getD i 0 < 4294967296) (_hI : RowD w0 (DatC w0 h) (.slice a2 I.length p2) I) (_hR : RowD w0 (DatC w0 h) (.slice a3 R.length p3) R) (_hR1 : R.length ≤ 1) (_hU : Up w0 w) (_hn : -549755813888 ≤ n ∧ n ≤ 549755813888) (_hgI : I.all (goodD h dp) = true) (_hgR : R.all (goodD h dp) = true) (hl : (datB (h + 1) (4, n, b, L, t, I, R)).length ≤ 900000000) :
    Calls Try.prog 26 #[.agg #[.int .i64 4, .int .i64 n, .bool b, .slice a1 L.length p1, .string t, .slice a2 I.length p2, .slice a3 R.length p3]] w fun e w' => BEnd w (datB (h + 1) (4, n, b, L, t, I, R)) e w' := by
  have hE : datB (h + 1) (4, n, b, L, t, I, R) = (numB 4) ++ txtB t := by
    simp [datB]
  rw [hE] at hl ⊢
  clear hE
  have hts : t.size ≤ 900000000 := by
    have := byL_len t
    simp only [txtB, List.length_append] at hl
    omega
  have HK0 := hide (fun (W : World) => show Calls Try.prog 22 #[.int .i64 4] W fun e w' => BEnd W (numB 4) e w' from rnum_any 4 W (by omega))
  obtain ⟨l0, hl0⟩ : ∃ l, l = numB 4 := ⟨_, rfl⟩
  rw [← hl0] at hl HK0 ⊢
  obtain ⟨m1, hm1⟩ : ∃ l, l = txtB t := ⟨_, rfl⟩
  have hp1 : 0 < m1.length := by rw [hm1]; exact (by unfold txtB; rw [List.length_append]; have := numB_pos t.size; omega)
  have HK1 := hide (fun (W : World) => show Calls Try.prog 23 #[.string t] W fun e w' => BEnd W m1 e w' by rw [hm1]; exact rsome_any t W hts)
  obtain ⟨l1, hl1⟩ : ∃ l, l = l0 ++ m1 := ⟨_, rfl⟩
  rw [← hm1, ← hl1] at hl ⊢
  have z1 : l1.length ≤ 900000000 := hl
  have x1 : l0.length + m1.length = l1.length := by rw [hl1, List.length_append]
  have HD : Hid (DBx (w.alloc (.cells #[.int .i64 4, .int .i64 n, .bool b, .slice a1 L.length p1, .string t, .slice a2 I.length p2, .slice a3 R.length p3] 64)) w.heap.size (.int .i64 4) (.int .i64 n) (.bool b) (.slice a1 L.length p1) (.string t) (.slice a2 I.length p2) (.slice a3 R.length p3)) := hide (heap_alloc_new w _)
  have HL1 := hide hl1
  clear _hM _hlim _hI _hR _hU _hgI _hgR _hC hl0 hm1 hl1
  go_enter Try.func26, Try.ntmps26
  go_wp2_with (first
    | (go_at_call_of 22 (Value.int IntKind.i64 4); refine (HK0.out _).mono ?_; rintro e0 w0x ⟨ar0, cr0, rfl, hb0, F0⟩; have d0 := HD.out.fr F0; have y00 := d0.k0; have y01 := d0.k1; have y02 := d0.k2; have y03 := d0.k3; have y04 := d0.k4; have y05 := d0.k5; have y06 := d0.k6; have HB0 := hide (hb0.mono (by simp : w.heap.size ≤ _)); have HF0 := hide (Fr.trans (S := fun _ => False) ((Fr.refl _ w).alloc _) F0 (fun _ _ e => e)); have HD0 := hide d0; have hz0 : w.heap.size ≤ w0x.heap.size := HF0.out.size; clear hb0 F0 d0)
    | (go_at_call 23; refine (HK1.out _).mono ?_; rintro e1 v1x ⟨b1, g1, rfl, hv1, G1⟩; have HV1 := hide hv1; have HC1 := hide (HB0.out.fr G1); have d1 := HD0.out.fr G1; have yc10 := d1.k0; have yc11 := d1.k1; have yc12 := d1.k2; have yc13 := d1.k3; have yc14 := d1.k4; have yc15 := d1.k5; have yc16 := d1.k6; have HE1 := hide d1; have HG1 := hide (HF0.out.trans G1 (fun _ _ e => e)); have hy1 : w.heap.size ≤ v1x.heap.size := HG1.out.size; clear hv1 G1 d1)
    | (at_builtin; refine wpList_appC rfl _ _ rfl w.heap.size _ l0 rfl HC1.out _ _ m1 rfl HV1.out hp1 (by omega) hy1 l1 HL1.out ?_; intro ar1 cr1 w1x hb1 F1; have d1 := HE1.out.upB F1; have y10 := d1.k0; have y11 := d1.k1; have y12 := d1.k2; have y13 := d1.k3; have y14 := d1.k4; have y15 := d1.k5; have y16 := d1.k6; have HB1 := hide hb1; have HF1 := hide (fw_new F1 HG1.out); have HD1 := hide d1; have hz1 : w.heap.size ≤ w1x.heap.size := HF1.out.size; clear hb1 F1 d1))
  go_ret
  exact ⟨ar1, cr1, rfl, HB1.out, HF1.out⟩

set_option maxRecDepth 100000 in
set_option maxHeartbeats 2000000 in
theorem rdatum_5 {h : Nat} (_hC : RDOK h) (w0 w : World) (n : Int) (b : Bool) (L : List Nat) (t : ByteArray) (I R : List (Tr h)) (a1 a2 a3 : Option Addr) (p1 p2 p3 dp : Nat) (_hM : Sl .u32 w0 (.slice a1 L.length p1) L.length (fun i => L.getD i 0)) (_hlim : ∀ i, i < L.length → L.getD i 0 < 4294967296) (_hI : RowD w0 (DatC w0 h) (.slice a2 I.length p2) I) (_hR : RowD w0 (DatC w0 h) (.slice a3 R.length p3) R) (_hR1 : R.length ≤ 1) (_hU : Up w0 w) (hn : -549755813888 ≤ n ∧ n ≤ 549755813888) (_hgI : I.all (goodD h dp) = true) (_hgR : R.all (goodD h dp) = true) (hl : (datB (h + 1) (5, n, b, L, t, I, R)).length ≤ 900000000) :
    Calls Try.prog 26 #[.agg #[.int .i64 5, .int .i64 n, .bool b, .slice a1 L.length p1, .string t, .slice a2 I.length p2, .slice a3 R.length p3]] w fun e w' => BEnd w (datB (h + 1) (5, n, b, L, t, I, R)) e w' := by
  have hE : datB (h + 1) (5, n, b, L, t, I, R) = ((numB 5) ++ txtB t) ++ numB (sgnN n) := by
    simp [datB, List.append_assoc]
  rw [hE] at hl ⊢
  clear hE
  have hts : t.size ≤ 900000000 := by
    have := byL_len t
    simp only [txtB, List.length_append] at hl
    omega
  have HK0 := hide (fun (W : World) => show Calls Try.prog 22 #[.int .i64 5] W fun e w' => BEnd W (numB 5) e w' from rnum_any 5 W (by omega))
  obtain ⟨l0, hl0⟩ : ∃ l, l = numB 5 := ⟨_, rfl⟩
  rw [← hl0] at hl HK0 ⊢
  obtain ⟨m1, hm1⟩ : ∃ l, l = txtB t := ⟨_, rfl⟩
  have hp1 : 0 < m1.length := by rw [hm1]; exact (by unfold txtB; rw [List.length_append]; have := numB_pos t.size; omega)
  have HK1 := hide (fun (W : World) => show Calls Try.prog 23 #[.string t] W fun e w' => BEnd W m1 e w' by rw [hm1]; exact rsome_any t W hts)
  obtain ⟨l1, hl1⟩ : ∃ l, l = l0 ++ m1 := ⟨_, rfl⟩
  rw [← hm1, ← hl1] at hl ⊢
  obtain ⟨m2, hm2⟩ : ∃ l, l = numB (sgnN n) := ⟨_, rfl⟩
  have hp2 : 0 < m2.length := by rw [hm2]; exact numB_pos _
  have HK2 := hide (fun (W : World) => show Calls Try.prog 25 #[.int .i64 n] W fun e w' => BEnd W m2 e w' by rw [hm2]; exact rsigned_any n W hn.1 hn.2)
  obtain ⟨l2, hl2⟩ : ∃ l, l = l1 ++ m2 := ⟨_, rfl⟩
  rw [← hm2, ← hl2] at hl ⊢
  have z2 : l2.length ≤ 900000000 := hl
  have x2 : l1.length + m2.length = l2.length := by rw [hl2, List.length_append]
  have x1 : l0.length + m1.length = l1.length := by rw [hl1, List.length_append]
  have HD : Hid (DBx (w.alloc (.cells #[.int .i64 5, .int .i64 n, .bool b, .slice a1 L.length p1, .string t, .slice a2 I.length p2, .slice a3 R.length p3] 64)) w.heap.size (.int .i64 5) (.int .i64 n) (.bool b) (.slice a1 L.length p1) (.string t) (.slice a2 I.length p2) (.slice a3 R.length p3)) := hide (heap_alloc_new w _)
  have HL1 := hide hl1
  have HL2 := hide hl2
  clear _hM _hlim _hI _hR _hU _hgI _hgR _hC hl0 hm1 hm2 hl1 hl2
  go_enter Try.func26, Try.ntmps26
  go_wp2_with (first
    | (go_at_call_of 22 (Value.int IntKind.i64 5); refine (HK0.out _).mono ?_; rintro e0 w0x ⟨ar0, cr0, rfl, hb0, F0⟩; have d0 := HD.out.fr F0; have y00 := d0.k0; have y01 := d0.k1; have y02 := d0.k2; have y03 := d0.k3; have y04 := d0.k4; have y05 := d0.k5; have y06 := d0.k6; have HB0 := hide (hb0.mono (by simp : w.heap.size ≤ _)); have HF0 := hide (Fr.trans (S := fun _ => False) ((Fr.refl _ w).alloc _) F0 (fun _ _ e => e)); have HD0 := hide d0; have hz0 : w.heap.size ≤ w0x.heap.size := HF0.out.size; clear hb0 F0 d0)
    | (go_at_call 23; refine (HK1.out _).mono ?_; rintro e1 v1x ⟨b1, g1, rfl, hv1, G1⟩; have HV1 := hide hv1; have HC1 := hide (HB0.out.fr G1); have d1 := HD0.out.fr G1; have yc10 := d1.k0; have yc11 := d1.k1; have yc12 := d1.k2; have yc13 := d1.k3; have yc14 := d1.k4; have yc15 := d1.k5; have yc16 := d1.k6; have HE1 := hide d1; have HG1 := hide (HF0.out.trans G1 (fun _ _ e => e)); have hy1 : w.heap.size ≤ v1x.heap.size := HG1.out.size; clear hv1 G1 d1)
    | (at_builtin; refine wpList_appC rfl _ _ rfl w.heap.size _ l0 rfl HC1.out _ _ m1 rfl HV1.out hp1 (by omega) hy1 l1 HL1.out ?_; intro ar1 cr1 w1x hb1 F1; have d1 := HE1.out.upB F1; have y10 := d1.k0; have y11 := d1.k1; have y12 := d1.k2; have y13 := d1.k3; have y14 := d1.k4; have y15 := d1.k5; have y16 := d1.k6; have HB1 := hide hb1; have HF1 := hide (fw_new F1 HG1.out); have HD1 := hide d1; have hz1 : w.heap.size ≤ w1x.heap.size := HF1.out.size; clear hb1 F1 d1)
    | (go_at_call 25; refine (HK2.out _).mono ?_; rintro e2 v2x ⟨b2, g2, rfl, hv2, G2⟩; have HV2 := hide hv2; have HC2 := hide (HB1.out.fr G2); have d2 := HD1.out.fr G2; have yc20 := d2.k0; have yc21 := d2.k1; have yc22 := d2.k2; have yc23 := d2.k3; have yc24 := d2.k4; have yc25 := d2.k5; have yc26 := d2.k6; have HE2 := hide d2; have HG2 := hide (HF1.out.trans G2 (fun _ _ e => e)); have hy2 : w.heap.size ≤ v2x.heap.size := HG2.out.size; clear hv2 G2 d2)
    | (at_builtin; refine wpList_appC rfl _ _ rfl w.heap.size _ l1 rfl HC2.out _ _ m2 rfl HV2.out hp2 (by omega) hy2 l2 HL2.out ?_; intro ar2 cr2 w2x hb2 F2; have d2 := HE2.out.upB F2; have y20 := d2.k0; have y21 := d2.k1; have y22 := d2.k2; have y23 := d2.k3; have y24 := d2.k4; have y25 := d2.k5; have y26 := d2.k6; have HB2 := hide hb2; have HF2 := hide (fw_new F2 HG2.out); have HD2 := hide d2; have hz2 : w.heap.size ≤ w2x.heap.size := HF2.out.size; clear hb2 F2 d2))
  go_ret
  exact ⟨ar2, cr2, rfl, HB2.out, HF2.out⟩

set_option maxRecDepth 100000 in
set_option maxHeartbeats 2000000 in
theorem rdatum_8 {h : Nat} (_hC : RDOK h) (w0 w : World) (n : Int) (b : Bool) (L : List Nat) (t : ByteArray) (I R : List (Tr h)) (a1 a2 a3 : Option Addr) (p1 p2 p3 dp : Nat) (_hM : Sl .u32 w0 (.slice a1 L.length p1) L.length (fun i => L.getD i 0)) (_hlim : ∀ i, i < L.length → L.getD i 0 < 4294967296) (_hI : RowD w0 (DatC w0 h) (.slice a2 I.length p2) I) (_hR : RowD w0 (DatC w0 h) (.slice a3 R.length p3) R) (_hR1 : R.length ≤ 1) (_hU : Up w0 w) (_hn : -549755813888 ≤ n ∧ n ≤ 549755813888) (_hgI : I.all (goodD h dp) = true) (_hgR : R.all (goodD h dp) = true) (hl : (datB (h + 1) (8, n, b, L, t, I, R)).length ≤ 900000000) :
    Calls Try.prog 26 #[.agg #[.int .i64 8, .int .i64 n, .bool b, .slice a1 L.length p1, .string t, .slice a2 I.length p2, .slice a3 R.length p3]] w fun e w' => BEnd w (datB (h + 1) (8, n, b, L, t, I, R)) e w' := by
  have hE : datB (h + 1) (8, n, b, L, t, I, R) = numB 8 := by
    simp [datB]
  rw [hE] at hl ⊢
  clear hE
  have HK0 := hide (fun (W : World) => show Calls Try.prog 22 #[.int .i64 8] W fun e w' => BEnd W (numB 8) e w' from rnum_any 8 W (by omega))
  obtain ⟨l0, hl0⟩ : ∃ l, l = numB 8 := ⟨_, rfl⟩
  rw [← hl0] at hl HK0 ⊢
  have z0 : l0.length ≤ 900000000 := hl
  have HD : Hid (DBx (w.alloc (.cells #[.int .i64 8, .int .i64 n, .bool b, .slice a1 L.length p1, .string t, .slice a2 I.length p2, .slice a3 R.length p3] 64)) w.heap.size (.int .i64 8) (.int .i64 n) (.bool b) (.slice a1 L.length p1) (.string t) (.slice a2 I.length p2) (.slice a3 R.length p3)) := hide (heap_alloc_new w _)
  clear _hM _hlim _hI _hR _hU _hgI _hgR _hC hl0  
  go_enter Try.func26, Try.ntmps26
  go_wp2_with (first
    | (go_at_call_of 22 (Value.int IntKind.i64 8); refine (HK0.out _).mono ?_; rintro e0 w0x ⟨ar0, cr0, rfl, hb0, F0⟩; have d0 := HD.out.fr F0; have y00 := d0.k0; have y01 := d0.k1; have y02 := d0.k2; have y03 := d0.k3; have y04 := d0.k4; have y05 := d0.k5; have y06 := d0.k6; have HB0 := hide (hb0.mono (by simp : w.heap.size ≤ _)); have HF0 := hide (Fr.trans (S := fun _ => False) ((Fr.refl _ w).alloc _) F0 (fun _ _ e => e)); have HD0 := hide d0; have hz0 : w.heap.size ≤ w0x.heap.size := HF0.out.size; clear hb0 F0 d0))
  go_ret
  exact ⟨ar0, cr0, rfl, HB0.out, HF0.out⟩

end Go.Proofs.Ytilcigjhogcjkaa
