/-
  What is proved here: a writer's datum (package pack): data of any height that may be written.
-/
import Derived.Test.YtilcigjhogcjkaaPKRow
namespace Go.Proofs.Ytilcigjhogcjkaa
open Go Go.RowKit

theorem half_le {n : Int} (h : half n = true) : -549755813888 ≤ n ∧ n ≤ 549755813888 := by
  simpa [half] using h
/-- The box of a datum. -/
def DBx (w : World) (B : Nat) (c0 c1 c2 c3 c4 c5 c6 : Value) : Prop := w.heap[B]? = some (.cells #[c0, c1, c2, c3, c4, c5, c6] 64 (0, 0))
theorem DBx.fw {w w' : World} {B C : Nat} {c0 c1 c2 c3 c4 c5 c6 : Value} (h : DBx w B c0 c1 c2 c3 c4 c5 c6) (hf : FW C w w') : DBx w' B c0 c1 c2 c3 c4 c5 c6 := hf.kt _ _ _ _ h (by decide) (by decide)
theorem DBx.k0 {w : World} {B : Nat} {c0 c1 c2 c3 c4 c5 c6 : Value} (h : DBx w B c0 c1 c2 c3 c4 c5 c6) : w.cell? ⟨B, 0, none⟩ = some c0 := by
  rw [cell_of_row w B 0 _ _ _ h]
  rfl
theorem DBx.k1 {w : World} {B : Nat} {c0 c1 c2 c3 c4 c5 c6 : Value} (h : DBx w B c0 c1 c2 c3 c4 c5 c6) : w.cell? ⟨B, 1, none⟩ = some c1 := by
  rw [cell_of_row w B 1 _ _ _ h]
  rfl
theorem DBx.k2 {w : World} {B : Nat} {c0 c1 c2 c3 c4 c5 c6 : Value} (h : DBx w B c0 c1 c2 c3 c4 c5 c6) : w.cell? ⟨B, 2, none⟩ = some c2 := by
  rw [cell_of_row w B 2 _ _ _ h]
  rfl
theorem DBx.k3 {w : World} {B : Nat} {c0 c1 c2 c3 c4 c5 c6 : Value} (h : DBx w B c0 c1 c2 c3 c4 c5 c6) : w.cell? ⟨B, 3, none⟩ = some c3 := by
  rw [cell_of_row w B 3 _ _ _ h]
  rfl
theorem DBx.k4 {w : World} {B : Nat} {c0 c1 c2 c3 c4 c5 c6 : Value} (h : DBx w B c0 c1 c2 c3 c4 c5 c6) : w.cell? ⟨B, 4, none⟩ = some c4 := by
  rw [cell_of_row w B 4 _ _ _ h]
  rfl
theorem DBx.k5 {w : World} {B : Nat} {c0 c1 c2 c3 c4 c5 c6 : Value} (h : DBx w B c0 c1 c2 c3 c4 c5 c6) : w.cell? ⟨B, 5, none⟩ = some c5 := by
  rw [cell_of_row w B 5 _ _ _ h]
  rfl
theorem DBx.k6 {w : World} {B : Nat} {c0 c1 c2 c3 c4 c5 c6 : Value} (h : DBx w B c0 c1 c2 c3 c4 c5 c6) : w.cell? ⟨B, 6, none⟩ = some c6 := by
  rw [cell_of_row w B 6 _ _ _ h]
  rfl

set_option maxRecDepth 100000 in
set_option maxHeartbeats 1000000 in
theorem wdatum_1 {h : Nat} (_hC : DatWOK h) (w0 w : World) (wb : Nat) (out : List Nat) (n : Int) (b : Bool) (L : List Nat) (t : ByteArray) (I R : List (Tr h)) (a1 a2 a3 : Option Addr) (p1 p2 p3 dp : Nat) (hM : Sl .u32 w0 (.slice a1 L.length p1) L.length (fun i => L.getD i 0)) (hlim : ∀ i, i < L.length → L.getD i 0 < 4294967296) (_hI : RowD w0 (DatC w0 h) (.slice a2 I.length p2) I) (_hR : RowD w0 (DatC w0 h) (.slice a3 R.length p3) R) (hU : Up w0 w) (hW : WO w0.heap.size w wb out) (_hn : -549755813888 ≤ n ∧ n ≤ 549755813888) (_hgI : I.all (goodD h dp) = true) (_hgR : R.all (goodD h dp) = true) (hl : (out ++ datB (h + 1) (1, n, b, L, t, I, R)).length ≤ 1000000000) :
    Calls Try.prog 71 #[.pointer (some ⟨wb, 0, none⟩), .agg #[.int .i64 1, .int .i64 n, .bool b, .slice a1 L.length p1, .string t, .slice a2 I.length p2, .slice a3 R.length p3]] w fun e w' => WEnd w0.heap.size w wb (out ++ datB (h + 1) (1, n, b, L, t, I, R)) e w' := by
  have hE : out ++ datB (h + 1) (1, n, b, L, t, I, R) = ((((out ++ numB 1) ++ flgB b) ++ numB L.length) ++ L.flatMap numB) := by
    simp [datB, List.append_assoc]
  rw [hE] at hl ⊢
  clear hE
  obtain ⟨q0, hq0⟩ : ∃ q, q = out ++ numB 1 := ⟨_, rfl⟩
  rw [← hq0] at hl ⊢
  obtain ⟨q1, hq1⟩ : ∃ q, q = ((q0 ++ flgB b) ++ numB L.length) ++ L.flatMap numB := ⟨_, rfl⟩
  rw [← hq1] at hl ⊢
  have m1 : q1.length ≤ 1000000000 := hl
  have M1 := m1
  have m0 : q0.length ≤ 1000000000 := by
    rw [hq1] at m1
    simp only [List.length_append] at m1
    omega
  have M0 := m0
  have HK0 := hide (fun (W : World) (hw : WO w0.heap.size W wb out) (hb : w0.heap.size ≤ W.heap.size) => show Calls Try.prog 40 #[.pointer (some ⟨wb, 0, none⟩), .int .i64 1] W fun e w' => WEnd w0.heap.size W wb q0 e w' by
    rw [hq0] at m0 ⊢
    exact number_any w0.heap.size W wb out 1 hw (by omega) m0 hb)
  have HK1 := hide (fun (W : World) (hw : WO w0.heap.size W wb q0) (hu : Up w0 W) => show Calls Try.prog 79 #[.pointer (some ⟨wb, 0, none⟩), .agg #[.bool b, .slice a1 L.length p1]] W fun e w' => WEnd w0.heap.size W wb q1 e w' by
    have m1' : q1.length ≤ 1000000000 := M1
    exact wnum_any w0 W wb q0 b L (.slice a1 L.length p1) hM hu hw hlim q1 hq1 m1')
  have HU := hide hU
  have HB0 : Hid (DBx (w.alloc (.cells #[.int .i64 1, .int .i64 n, .bool b, .slice a1 L.length p1, .string t, .slice a2 I.length p2, .slice a3 R.length p3] 64)) w.heap.size (.int .i64 1) (.int .i64 n) (.bool b) (.slice a1 L.length p1) (.string t) (.slice a2 I.length p2) (.slice a3 R.length p3)) := hide (heap_alloc_new w _)
  have HW0 : Hid (WO w0.heap.size (w.alloc (.cells #[.int .i64 1, .int .i64 n, .bool b, .slice a1 L.length p1, .string t, .slice a2 I.length p2, .slice a3 R.length p3] 64)) wb out) := hide (hW.keep ((Fr.refl _ _).alloc _))
  clear hM hlim _hI _hR hU hW _hn _hgI _hgR hl _hC hq0 hq1 m0 m1
  go_enter Try.func71, Try.ntmps71
  go_wp2_with (first
    | (go_at_call 40; refine (HK0.out _ HW0.out (Nat.le_trans HU.out.size ((Fr.refl (fun _ => False) w).alloc _).size)).mono ?_; rintro e1 x1 ⟨rfl, hw1, F1⟩; have b1 := HB0.out.fw F1; have u10 := b1.k0; have u11 := b1.k1; have u12 := b1.k2; have u13 := b1.k3; have u14 := b1.k4; have u15 := b1.k5; have u16 := b1.k6; have HW1 := hide hw1; have HF1 := hide ((FW.of (B := w0.heap.size) ((Fr.refl _ w).alloc _)).trans F1); have HB1 := hide b1; clear hw1 F1 b1)
    | (go_at_call 79; refine (HK1.out _ HW1.out (HF1.out.up HU.out)).mono ?_; rintro e2 x2 ⟨rfl, hw2, F2⟩; have b2 := HB1.out.fw F2; have u20 := b2.k0; have u21 := b2.k1; have u22 := b2.k2; have u23 := b2.k3; have u24 := b2.k4; have u25 := b2.k5; have u26 := b2.k6; have HW2 := hide hw2; have HF2 := hide (HF1.out.trans F2); have HB2 := hide b2; clear hw2 F2 b2))
  exact bodyPost_end (results_none rfl _ _ _) rfl ⟨rfl, HW2.out, HF2.out⟩

set_option maxRecDepth 100000 in
set_option maxHeartbeats 1000000 in
theorem wdatum_2 {h : Nat} (_hC : DatWOK h) (w0 w : World) (wb : Nat) (out : List Nat) (n : Int) (b : Bool) (L : List Nat) (t : ByteArray) (I R : List (Tr h)) (a1 a2 a3 : Option Addr) (p1 p2 p3 dp : Nat) (_hM : Sl .u32 w0 (.slice a1 L.length p1) L.length (fun i => L.getD i 0)) (_hlim : ∀ i, i < L.length → L.getD i 0 < 4294967296) (_hI : RowD w0 (DatC w0 h) (.slice a2 I.length p2) I) (_hR : RowD w0 (DatC w0 h) (.slice a3 R.length p3) R) (hU : Up w0 w) (hW : WO w0.heap.size w wb out) (hn : -549755813888 ≤ n ∧ n ≤ 549755813888) (_hgI : I.all (goodD h dp) = true) (_hgR : R.all (goodD h dp) = true) (hl : (out ++ datB (h + 1) (2, n, b, L, t, I, R)).length ≤ 1000000000) :
    Calls Try.prog 71 #[.pointer (some ⟨wb, 0, none⟩), .agg #[.int .i64 2, .int .i64 n, .bool b, .slice a1 L.length p1, .string t, .slice a2 I.length p2, .slice a3 R.length p3]] w fun e w' => WEnd w0.heap.size w wb (out ++ datB (h + 1) (2, n, b, L, t, I, R)) e w' := by
  have hE : out ++ datB (h + 1) (2, n, b, L, t, I, R) = ((out ++ numB 2) ++ numB (sgnN n)) := by
    simp [datB, List.append_assoc]
  rw [hE] at hl ⊢
  clear hE
  obtain ⟨q0, hq0⟩ : ∃ q, q = out ++ numB 2 := ⟨_, rfl⟩
  rw [← hq0] at hl ⊢
  obtain ⟨q1, hq1⟩ : ∃ q, q = q0 ++ numB (sgnN n) := ⟨_, rfl⟩
  rw [← hq1] at hl ⊢
  have m1 : q1.length ≤ 1000000000 := hl
  have M1 := m1
  have m0 : q0.length ≤ 1000000000 := by
    rw [hq1] at m1
    simp only [List.length_append] at m1
    omega
  have M0 := m0
  have HK0 := hide (fun (W : World) (hw : WO w0.heap.size W wb out) (hb : w0.heap.size ≤ W.heap.size) => show Calls Try.prog 40 #[.pointer (some ⟨wb, 0, none⟩), .int .i64 2] W fun e w' => WEnd w0.heap.size W wb q0 e w' by
    rw [hq0] at m0 ⊢
    exact number_any w0.heap.size W wb out 2 hw (by omega) m0 hb)
  have HK1 := hide (fun (W : World) (hw : WO w0.heap.size W wb q0) (hu : Up w0 W) => show Calls Try.prog 56 #[.pointer (some ⟨wb, 0, none⟩), .int .i64 n] W fun e w' => WEnd w0.heap.size W wb q1 e w' by
    have m1' : q1.length ≤ 1000000000 := M1
    rw [hq1] at m1' ⊢
    exact signed_any w0.heap.size W wb q0 n hw hn.1 hn.2  m1' hu.size)
  have HU := hide hU
  have HB0 : Hid (DBx (w.alloc (.cells #[.int .i64 2, .int .i64 n, .bool b, .slice a1 L.length p1, .string t, .slice a2 I.length p2, .slice a3 R.length p3] 64)) w.heap.size (.int .i64 2) (.int .i64 n) (.bool b) (.slice a1 L.length p1) (.string t) (.slice a2 I.length p2) (.slice a3 R.length p3)) := hide (heap_alloc_new w _)
  have HW0 : Hid (WO w0.heap.size (w.alloc (.cells #[.int .i64 2, .int .i64 n, .bool b, .slice a1 L.length p1, .string t, .slice a2 I.length p2, .slice a3 R.length p3] 64)) wb out) := hide (hW.keep ((Fr.refl _ _).alloc _))
  clear _hM _hlim _hI _hR hU hW hn _hgI _hgR hl _hC hq0 hq1 m0 m1
  go_enter Try.func71, Try.ntmps71
  go_wp2_with (first
    | (go_at_call 40; refine (HK0.out _ HW0.out (Nat.le_trans HU.out.size ((Fr.refl (fun _ => False) w).alloc _).size)).mono ?_; rintro e1 x1 ⟨rfl, hw1, F1⟩; have b1 := HB0.out.fw F1; have u10 := b1.k0; have u11 := b1.k1; have u12 := b1.k2; have u13 := b1.k3; have u14 := b1.k4; have u15 := b1.k5; have u16 := b1.k6; have HW1 := hide hw1; have HF1 := hide ((FW.of (B := w0.heap.size) ((Fr.refl _ w).alloc _)).trans F1); have HB1 := hide b1; clear hw1 F1 b1)
    | (go_at_call 56; refine (HK1.out _ HW1.out (HF1.out.up HU.out)).mono ?_; rintro e2 x2 ⟨rfl, hw2, F2⟩; have b2 := HB1.out.fw F2; have u20 := b2.k0; have u21 := b2.k1; have u22 := b2.k2; have u23 := b2.k3; have u24 := b2.k4; have u25 := b2.k5; have u26 := b2.k6; have HW2 := hide hw2; have HF2 := hide (HF1.out.trans F2); have HB2 := hide b2; clear hw2 F2 b2))
  exact bodyPost_end (results_none rfl _ _ _) rfl ⟨rfl, HW2.out, HF2.out⟩

set_option maxRecDepth 100000 in
set_option maxHeartbeats 1000000 in
theorem wdatum_3 {h : Nat} (_hC : DatWOK h) (w0 w : World) (wb : Nat) (out : List Nat) (n : Int) (b : Bool) (L : List Nat) (t : ByteArray) (I R : List (Tr h)) (a1 a2 a3 : Option Addr) (p1 p2 p3 dp : Nat) (_hM : Sl .u32 w0 (.slice a1 L.length p1) L.length (fun i => L.getD i 0)) (_hlim : ∀ i, i < L.length → L.getD i 0 < 4294967296) (_hI : RowD w0 (DatC w0 h) (.slice a2 I.length p2) I) (_hR : RowD w0 (DatC w0 h) (.slice a3 R.length p3) R) (hU : Up w0 w) (hW : WO w0.heap.size w wb out) (hn : -549755813888 ≤ n ∧ n ≤ 549755813888) (_hgI : I.all (goodD h dp) = true) (_hgR : R.all (goodD h dp) = true) (hl : (out ++ datB (h + 1) (3, n, b, L, t, I, R)).length ≤ 1000000000) :
    Calls Try.prog 71 #[.pointer (some ⟨wb, 0, none⟩), .agg #[.int .i64 3, .int .i64 n, .bool b, .slice a1 L.length p1, .string t, .slice a2 I.length p2, .slice a3 R.length p3]] w fun e w' => WEnd w0.heap.size w wb (out ++ datB (h + 1) (3, n, b, L, t, I, R)) e w' := by
  have hE : out ++ datB (h + 1) (3, n, b, L, t, I, R) = ((out ++ numB 3) ++ numB (sgnN n)) := by
    simp [datB, List.append_assoc]
  rw [hE] at hl ⊢
  clear hE
  obtain ⟨q0, hq0⟩ : ∃ q, q = out ++ numB 3 := ⟨_, rfl⟩
  rw [← hq0] at hl ⊢
  obtain ⟨q1, hq1⟩ : ∃ q, q = q0 ++ numB (sgnN n) := ⟨_, rfl⟩
  rw [← hq1] at hl ⊢
  have m1 : q1.length ≤ 1000000000 := hl
  have M1 := m1
  have m0 : q0.length ≤ 1000000000 := by
    rw [hq1] at m1
    simp only [List.length_append] at m1
    omega
  have M0 := m0
  have HK0 := hide (fun (W : World) (hw : WO w0.heap.size W wb out) (hb : w0.heap.size ≤ W.heap.size) => show Calls Try.prog 40 #[.pointer (some ⟨wb, 0, none⟩), .int .i64 3] W fun e w' => WEnd w0.heap.size W wb q0 e w' by
    rw [hq0] at m0 ⊢
    exact number_any w0.heap.size W wb out 3 hw (by omega) m0 hb)
  have HK1 := hide (fun (W : World) (hw : WO w0.heap.size W wb q0) (hu : Up w0 W) => show Calls Try.prog 56 #[.pointer (some ⟨wb, 0, none⟩), .int .i64 n] W fun e w' => WEnd w0.heap.size W wb q1 e w' by
    have m1' : q1.length ≤ 1000000000 := M1
    rw [hq1] at m1' ⊢
    exact signed_any w0.heap.size W wb q0 n hw hn.1 hn.2  m1' hu.size)
  have HU := hide hU
  have HB0 : Hid (DBx (w.alloc (.cells #[.int .i64 3, .int .i64 n, .bool b, .slice a1 L.length p1, .string t, .slice a2 I.length p2, .slice a3 R.length p3] 64)) w.heap.size (.int .i64 3) (.int .i64 n) (.bool b) (.slice a1 L.length p1) (.string t) (.slice a2 I.length p2) (.slice a3 R.length p3)) := hide (heap_alloc_new w _)
  have HW0 : Hid (WO w0.heap.size (w.alloc (.cells #[.int .i64 3, .int .i64 n, .bool b, .slice a1 L.length p1, .string t, .slice a2 I.length p2, .slice a3 R.length p3] 64)) wb out) := hide (hW.keep ((Fr.refl _ _).alloc _))
  clear _hM _hlim _hI _hR hU hW hn _hgI _hgR hl _hC hq0 hq1 m0 m1
  go_enter Try.func71, Try.ntmps71
  go_wp2_with (first
    | (go_at_call 40; refine (HK0.out _ HW0.out (Nat.le_trans HU.out.size ((Fr.refl (fun _ => False) w).alloc _).size)).mono ?_; rintro e1 x1 ⟨rfl, hw1, F1⟩; have b1 := HB0.out.fw F1; have u10 := b1.k0; have u11 := b1.k1; have u12 := b1.k2; have u13 := b1.k3; have u14 := b1.k4; have u15 := b1.k5; have u16 := b1.k6; have HW1 := hide hw1; have HF1 := hide ((FW.of (B := w0.heap.size) ((Fr.refl _ w).alloc _)).trans F1); have HB1 := hide b1; clear hw1 F1 b1)
    | (go_at_call 56; refine (HK1.out _ HW1.out (HF1.out.up HU.out)).mono ?_; rintro e2 x2 ⟨rfl, hw2, F2⟩; have b2 := HB1.out.fw F2; have u20 := b2.k0; have u21 := b2.k1; have u22 := b2.k2; have u23 := b2.k3; have u24 := b2.k4; have u25 := b2.k5; have u26 := b2.k6; have HW2 := hide hw2; have HF2 := hide (HF1.out.trans F2); have HB2 := hide b2; clear hw2 F2 b2))
  exact bodyPost_end (results_none rfl _ _ _) rfl ⟨rfl, HW2.out, HF2.out⟩

set_option maxRecDepth 100000 in
set_option maxHeartbeats 1000000 in
theorem wdatum_4 {h : Nat} (_hC : DatWOK h) (w0 w : World) (wb : Nat) (out : List Nat) (n : Int) (b : Bool) (L : List Nat) (t : ByteArray) (I R : List (Tr h)) (a1 a2 a3 : Option Addr) (p1 p2 p3 dp : Nat) (_hM : Sl .u32 w0 (.slice a1 L.length p1) L.length (fun i => L.getD i 0)) (_hlim : ∀ i, i < L.length → L.getD i 0 < 4294967296) (_hI : RowD w0 (DatC w0 h) (.slice a2 I.length p2) I) (_hR : RowD w0 (DatC w0 h) (.slice a3 R.length p3) R) (hU : Up w0 w) (hW : WO w0.heap.size w wb out) (_hn : -549755813888 ≤ n ∧ n ≤ 549755813888) (_hgI : I.all (goodD h dp) = true) (_hgR : R.all (goodD h dp) = true) (hl : (out ++ datB (h + 1) (4, n, b, L, t, I, R)).length ≤ 1000000000) :
    Calls Try.prog 71 #[.pointer (some ⟨wb, 0, none⟩), .agg #[.int .i64 4, .int .i64 n, .bool b, .slice a1 L.length p1, .string t, .slice a2 I.length p2, .slice a3 R.length p3]] w fun e w' => WEnd w0.heap.size w wb (out ++ datB (h + 1) (4, n, b, L, t, I, R)) e w' := by
  have hE : out ++ datB (h + 1) (4, n, b, L, t, I, R) = ((out ++ numB 4) ++ txtB t) := by
    simp [datB, List.append_assoc]
  rw [hE] at hl ⊢
  clear hE
  obtain ⟨q0, hq0⟩ : ∃ q, q = out ++ numB 4 := ⟨_, rfl⟩
  rw [← hq0] at hl ⊢
  obtain ⟨q1, hq1⟩ : ∃ q, q = q0 ++ txtB t := ⟨_, rfl⟩
  rw [← hq1] at hl ⊢
  have m1 : q1.length ≤ 1000000000 := hl
  have M1 := m1
  have m0 : q0.length ≤ 1000000000 := by
    rw [hq1] at m1
    simp only [List.length_append] at m1
    omega
  have M0 := m0
  have HK0 := hide (fun (W : World) (hw : WO w0.heap.size W wb out) (hb : w0.heap.size ≤ W.heap.size) => show Calls Try.prog 40 #[.pointer (some ⟨wb, 0, none⟩), .int .i64 4] W fun e w' => WEnd w0.heap.size W wb q0 e w' by
    rw [hq0] at m0 ⊢
    exact number_any w0.heap.size W wb out 4 hw (by omega) m0 hb)
  have HK1 := hide (fun (W : World) (hw : WO w0.heap.size W wb q0) (hu : Up w0 W) => show Calls Try.prog 54 #[.pointer (some ⟨wb, 0, none⟩), .string t] W fun e w' => WEnd w0.heap.size W wb q1 e w' by
    have m1' : q1.length ≤ 1000000000 := M1
    rw [hq1] at m1' ⊢
    exact text_any w0.heap.size W wb q0 t hw  m1' hu.size)
  have HU := hide hU
  have HB0 : Hid (DBx (w.alloc (.cells #[.int .i64 4, .int .i64 n, .bool b, .slice a1 L.length p1, .string t, .slice a2 I.length p2, .slice a3 R.length p3] 64)) w.heap.size (.int .i64 4) (.int .i64 n) (.bool b) (.slice a1 L.length p1) (.string t) (.slice a2 I.length p2) (.slice a3 R.length p3)) := hide (heap_alloc_new w _)
  have HW0 : Hid (WO w0.heap.size (w.alloc (.cells #[.int .i64 4, .int .i64 n, .bool b, .slice a1 L.length p1, .string t, .slice a2 I.length p2, .slice a3 R.length p3] 64)) wb out) := hide (hW.keep ((Fr.refl _ _).alloc _))
  clear _hM _hlim _hI _hR hU hW _hn _hgI _hgR hl _hC hq0 hq1 m0 m1
  go_enter Try.func71, Try.ntmps71
  go_wp2_with (first
    | (go_at_call 40; refine (HK0.out _ HW0.out (Nat.le_trans HU.out.size ((Fr.refl (fun _ => False) w).alloc _).size)).mono ?_; rintro e1 x1 ⟨rfl, hw1, F1⟩; have b1 := HB0.out.fw F1; have u10 := b1.k0; have u11 := b1.k1; have u12 := b1.k2; have u13 := b1.k3; have u14 := b1.k4; have u15 := b1.k5; have u16 := b1.k6; have HW1 := hide hw1; have HF1 := hide ((FW.of (B := w0.heap.size) ((Fr.refl _ w).alloc _)).trans F1); have HB1 := hide b1; clear hw1 F1 b1)
    | (go_at_call 54; refine (HK1.out _ HW1.out (HF1.out.up HU.out)).mono ?_; rintro e2 x2 ⟨rfl, hw2, F2⟩; have b2 := HB1.out.fw F2; have u20 := b2.k0; have u21 := b2.k1; have u22 := b2.k2; have u23 := b2.k3; have u24 := b2.k4; have u25 := b2.k5; have u26 := b2.k6; have HW2 := hide hw2; have HF2 := hide (HF1.out.trans F2); have HB2 := hide b2; clear hw2 F2 b2))
  exact bodyPost_end (results_none rfl _ _ _) rfl ⟨rfl, HW2.out, HF2.out⟩

set_option maxRecDepth 100000 in
set_option maxHeartbeats 1000000 in
theorem wdatum_5 {h : Nat} (_hC : DatWOK h) (w0 w : World) (wb : Nat) (out : List Nat) (n : Int) (b : Bool) (L : List Nat) (t : ByteArray) (I R : List (Tr h)) (a1 a2 a3 : Option Addr) (p1 p2 p3 dp : Nat) (_hM : Sl .u32 w0 (.slice a1 L.length p1) L.length (fun i => L.getD i 0)) (_hlim : ∀ i, i < L.length → L.getD i 0 < 4294967296) (_hI : RowD w0 (DatC w0 h) (.slice a2 I.length p2) I) (_hR : RowD w0 (DatC w0 h) (.slice a3 R.length p3) R) (hU : Up w0 w) (hW : WO w0.heap.size w wb out) (hn : -549755813888 ≤ n ∧ n ≤ 549755813888) (_hgI : I.all (goodD h dp) = true) (_hgR : R.all (goodD h dp) = true) (hl : (out ++ datB (h + 1) (5, n, b, L, t, I, R)).length ≤ 1000000000) :
    Calls Try.prog 71 #[.pointer (some ⟨wb, 0, none⟩), .agg #[.int .i64 5, .int .i64 n, .bool b, .slice a1 L.length p1, .string t, .slice a2 I.length p2, .slice a3 R.length p3]] w fun e w' => WEnd w0.heap.size w wb (out ++ datB (h + 1) (5, n, b, L, t, I, R)) e w' := by
  have hE : out ++ datB (h + 1) (5, n, b, L, t, I, R) = (((out ++ numB 5) ++ txtB t) ++ numB (sgnN n)) := by
    simp [datB, List.append_assoc]
  rw [hE] at hl ⊢
  clear hE
  obtain ⟨q0, hq0⟩ : ∃ q, q = out ++ numB 5 := ⟨_, rfl⟩
  rw [← hq0] at hl ⊢
  obtain ⟨q1, hq1⟩ : ∃ q, q = q0 ++ txtB t := ⟨_, rfl⟩
  rw [← hq1] at hl ⊢
  obtain ⟨q2, hq2⟩ : ∃ q, q = q1 ++ numB (sgnN n) := ⟨_, rfl⟩
  rw [← hq2] at hl ⊢
  have m2 : q2.length ≤ 1000000000 := hl
  have M2 := m2
  have m1 : q1.length ≤ 1000000000 := by
    rw [hq2] at m2
    simp only [List.length_append] at m2
    omega
  have M1 := m1
  have m0 : q0.length ≤ 1000000000 := by
    rw [hq1] at m1
    simp only [List.length_append] at m1
    omega
  have M0 := m0
  have HK0 := hide (fun (W : World) (hw : WO w0.heap.size W wb out) (hb : w0.heap.size ≤ W.heap.size) => show Calls Try.prog 40 #[.pointer (some ⟨wb, 0, none⟩), .int .i64 5] W fun e w' => WEnd w0.heap.size W wb q0 e w' by
    rw [hq0] at m0 ⊢
    exact number_any w0.heap.size W wb out 5 hw (by omega) m0 hb)
  have HK1 := hide (fun (W : World) (hw : WO w0.heap.size W wb q0) (hu : Up w0 W) => show Calls Try.prog 54 #[.pointer (some ⟨wb, 0, none⟩), .string t] W fun e w' => WEnd w0.heap.size W wb q1 e w' by
    have m1' : q1.length ≤ 1000000000 := M1
    rw [hq1] at m1' ⊢
    exact text_any w0.heap.size W wb q0 t hw  m1' hu.size)
  have HK2 := hide (fun (W : World) (hw : WO w0.heap.size W wb q1) (hu : Up w0 W) => show Calls Try.prog 56 #[.pointer (some ⟨wb, 0, none⟩), .int .i64 n] W fun e w' => WEnd w0.heap.size W wb q2 e w' by
    have m2' : q2.length ≤ 1000000000 := M2
    rw [hq2] at m2' ⊢
    exact signed_any w0.heap.size W wb q1 n hw hn.1 hn.2  m2' hu.size)
  have HU := hide hU
  have HB0 : Hid (DBx (w.alloc (.cells #[.int .i64 5, .int .i64 n, .bool b, .slice a1 L.length p1, .string t, .slice a2 I.length p2, .slice a3 R.length p3] 64)) w.heap.size (.int .i64 5) (.int .i64 n) (.bool b) (.slice a1 L.length p1) (.string t) (.slice a2 I.length p2) (.slice a3 R.length p3)) := hide (heap_alloc_new w _)
  have HW0 : Hid (WO w0.heap.size (w.alloc (.cells #[.int .i64 5, .int .i64 n, .bool b, .slice a1 L.length p1, .string t, .slice a2 I.length p2, .slice a3 R.length p3] 64)) wb out) := hide (hW.keep ((Fr.refl _ _).alloc _))
  clear _hM _hlim _hI _hR hU hW hn _hgI _hgR hl _hC hq0 hq1 hq2 m0 m1 m2
  go_enter Try.func71, Try.ntmps71
  go_wp2_with (first
    | (go_at_call 40; refine (HK0.out _ HW0.out (Nat.le_trans HU.out.size ((Fr.refl (fun _ => False) w).alloc _).size)).mono ?_; rintro e1 x1 ⟨rfl, hw1, F1⟩; have b1 := HB0.out.fw F1; have u10 := b1.k0; have u11 := b1.k1; have u12 := b1.k2; have u13 := b1.k3; have u14 := b1.k4; have u15 := b1.k5; have u16 := b1.k6; have HW1 := hide hw1; have HF1 := hide ((FW.of (B := w0.heap.size) ((Fr.refl _ w).alloc _)).trans F1); have HB1 := hide b1; clear hw1 F1 b1)
    | (go_at_call 54; refine (HK1.out _ HW1.out (HF1.out.up HU.out)).mono ?_; rintro e2 x2 ⟨rfl, hw2, F2⟩; have b2 := HB1.out.fw F2; have u20 := b2.k0; have u21 := b2.k1; have u22 := b2.k2; have u23 := b2.k3; have u24 := b2.k4; have u25 := b2.k5; have u26 := b2.k6; have HW2 := hide hw2; have HF2 := hide (HF1.out.trans F2); have HB2 := hide b2; clear hw2 F2 b2)
    | (go_at_call 56; refine (HK2.out _ HW2.out (HF2.out.up HU.out)).mono ?_; rintro e3 x3 ⟨rfl, hw3, F3⟩; have b3 := HB2.out.fw F3; have u30 := b3.k0; have u31 := b3.k1; have u32 := b3.k2; have u33 := b3.k3; have u34 := b3.k4; have u35 := b3.k5; have u36 := b3.k6; have HW3 := hide hw3; have HF3 := hide (HF2.out.trans F3); have HB3 := hide b3; clear hw3 F3 b3))
  exact bodyPost_end (results_none rfl _ _ _) rfl ⟨rfl, HW3.out, HF3.out⟩

set_option maxRecDepth 100000 in
set_option maxHeartbeats 1000000 in
theorem wdatum_6 {h : Nat} (hC : DatWOK h) (w0 w : World) (wb : Nat) (out : List Nat) (n : Int) (b : Bool) (L : List Nat) (t : ByteArray) (I R : List (Tr h)) (a1 a2 a3 : Option Addr) (p1 p2 p3 dp : Nat) (_hM : Sl .u32 w0 (.slice a1 L.length p1) L.length (fun i => L.getD i 0)) (_hlim : ∀ i, i < L.length → L.getD i 0 < 4294967296) (hI : RowD w0 (DatC w0 h) (.slice a2 I.length p2) I) (hR : RowD w0 (DatC w0 h) (.slice a3 R.length p3) R) (hU : Up w0 w) (hW : WO w0.heap.size w wb out) (_hn : -549755813888 ≤ n ∧ n ≤ 549755813888) (hgI : I.all (goodD h dp) = true) (hgR : R.all (goodD h dp) = true) (hl : (out ++ datB (h + 1) (6, n, b, L, t, I, R)).length ≤ 1000000000) :
    Calls Try.prog 71 #[.pointer (some ⟨wb, 0, none⟩), .agg #[.int .i64 6, .int .i64 n, .bool b, .slice a1 L.length p1, .string t, .slice a2 I.length p2, .slice a3 R.length p3]] w fun e w' => WEnd w0.heap.size w wb (out ++ datB (h + 1) (6, n, b, L, t, I, R)) e w' := by
  have hE : out ++ datB (h + 1) (6, n, b, L, t, I, R) = (((((out ++ numB 6) ++ numB I.length) ++ I.flatMap (datB h)) ++ flgB (!R.isEmpty)) ++ R.flatMap (datB h)) := by
    simp [datB, List.append_assoc]
  rw [hE] at hl ⊢
  clear hE
  obtain ⟨q0, hq0⟩ : ∃ q, q = out ++ numB 6 := ⟨_, rfl⟩
  rw [← hq0] at hl ⊢
  obtain ⟨q1, hq1⟩ : ∃ q, q = (q0 ++ numB I.length) ++ I.flatMap (datB h) := ⟨_, rfl⟩
  rw [← hq1] at hl ⊢
  obtain ⟨q2, hq2⟩ : ∃ q, q = (q1 ++ flgB (!R.isEmpty)) ++ R.flatMap (datB h) := ⟨_, rfl⟩
  rw [← hq2] at hl ⊢
  have m2 : q2.length ≤ 1000000000 := hl
  have M2 := m2
  have m1 : q1.length ≤ 1000000000 := by
    rw [hq2] at m2
    simp only [List.length_append] at m2
    omega
  have M1 := m1
  have m0 : q0.length ≤ 1000000000 := by
    rw [hq1] at m1
    simp only [List.length_append] at m1
    omega
  have M0 := m0
  have HK0 := hide (fun (W : World) (hw : WO w0.heap.size W wb out) (hb : w0.heap.size ≤ W.heap.size) => show Calls Try.prog 40 #[.pointer (some ⟨wb, 0, none⟩), .int .i64 6] W fun e w' => WEnd w0.heap.size W wb q0 e w' by
    rw [hq0] at m0 ⊢
    exact number_any w0.heap.size W wb out 6 hw (by omega) m0 hb)
  have HK1 := hide (fun (W : World) (hw : WO w0.heap.size W wb q0) (hu : Up w0 W) => show Calls Try.prog 57 #[.pointer (some ⟨wb, 0, none⟩), .slice a2 I.length p2] W fun e w' => WEnd w0.heap.size W wb q1 e w' by
    have m1' : q1.length ≤ 1000000000 := M1
    exact wdata_of hC w0 W wb q0 I (.slice a2 I.length p2) dp hI hu hw hgI q1 hq1 m1')
  have HK2 := hide (fun (W : World) (hw : WO w0.heap.size W wb q1) (hu : Up w0 W) => show Calls Try.prog 80 #[.pointer (some ⟨wb, 0, none⟩), .slice a3 R.length p3] W fun e w' => WEnd w0.heap.size W wb q2 e w' by
    have m2' : q2.length ≤ 1000000000 := M2
    exact wrest_of hC w0 W wb q1 R (.slice a3 R.length p3) dp hR hu hw hgR q2 hq2 m2')
  have HU := hide hU
  have HB0 : Hid (DBx (w.alloc (.cells #[.int .i64 6, .int .i64 n, .bool b, .slice a1 L.length p1, .string t, .slice a2 I.length p2, .slice a3 R.length p3] 64)) w.heap.size (.int .i64 6) (.int .i64 n) (.bool b) (.slice a1 L.length p1) (.string t) (.slice a2 I.length p2) (.slice a3 R.length p3)) := hide (heap_alloc_new w _)
  have HW0 : Hid (WO w0.heap.size (w.alloc (.cells #[.int .i64 6, .int .i64 n, .bool b, .slice a1 L.length p1, .string t, .slice a2 I.length p2, .slice a3 R.length p3] 64)) wb out) := hide (hW.keep ((Fr.refl _ _).alloc _))
  clear _hM _hlim hI hR hU hW _hn hgI hgR hl hC hq0 hq1 hq2 m0 m1 m2
  go_enter Try.func71, Try.ntmps71
  go_wp2_with (first
    | (go_at_call 40; refine (HK0.out _ HW0.out (Nat.le_trans HU.out.size ((Fr.refl (fun _ => False) w).alloc _).size)).mono ?_; rintro e1 x1 ⟨rfl, hw1, F1⟩; have b1 := HB0.out.fw F1; have u10 := b1.k0; have u11 := b1.k1; have u12 := b1.k2; have u13 := b1.k3; have u14 := b1.k4; have u15 := b1.k5; have u16 := b1.k6; have HW1 := hide hw1; have HF1 := hide ((FW.of (B := w0.heap.size) ((Fr.refl _ w).alloc _)).trans F1); have HB1 := hide b1; clear hw1 F1 b1)
    | (go_at_call 57; refine (HK1.out _ HW1.out (HF1.out.up HU.out)).mono ?_; rintro e2 x2 ⟨rfl, hw2, F2⟩; have b2 := HB1.out.fw F2; have u20 := b2.k0; have u21 := b2.k1; have u22 := b2.k2; have u23 := b2.k3; have u24 := b2.k4; have u25 := b2.k5; have u26 := b2.k6; have HW2 := hide hw2; have HF2 := hide (HF1.out.trans F2); have HB2 := hide b2; clear hw2 F2 b2)
    | (go_at_call 80; refine (HK2.out _ HW2.out (HF2.out.up HU.out)).mono ?_; rintro e3 x3 ⟨rfl, hw3, F3⟩; have b3 := HB2.out.fw F3; have u30 := b3.k0; have u31 := b3.k1; have u32 := b3.k2; have u33 := b3.k3; have u34 := b3.k4; have u35 := b3.k5; have u36 := b3.k6; have HW3 := hide hw3; have HF3 := hide (HF2.out.trans F3); have HB3 := hide b3; clear hw3 F3 b3))
  exact bodyPost_end (results_none rfl _ _ _) rfl ⟨rfl, HW3.out, HF3.out⟩

set_option maxRecDepth 100000 in
set_option maxHeartbeats 1000000 in
theorem wdatum_7 {h : Nat} (hC : DatWOK h) (w0 w : World) (wb : Nat) (out : List Nat) (n : Int) (b : Bool) (L : List Nat) (t : ByteArray) (I R : List (Tr h)) (a1 a2 a3 : Option Addr) (p1 p2 p3 dp : Nat) (_hM : Sl .u32 w0 (.slice a1 L.length p1) L.length (fun i => L.getD i 0)) (_hlim : ∀ i, i < L.length → L.getD i 0 < 4294967296) (hI : RowD w0 (DatC w0 h) (.slice a2 I.length p2) I) (_hR : RowD w0 (DatC w0 h) (.slice a3 R.length p3) R) (hU : Up w0 w) (hW : WO w0.heap.size w wb out) (_hn : -549755813888 ≤ n ∧ n ≤ 549755813888) (hgI : I.all (goodD h dp) = true) (_hgR : R.all (goodD h dp) = true) (hl : (out ++ datB (h + 1) (7, n, b, L, t, I, R)).length ≤ 1000000000) :
    Calls Try.prog 71 #[.pointer (some ⟨wb, 0, none⟩), .agg #[.int .i64 7, .int .i64 n, .bool b, .slice a1 L.length p1, .string t, .slice a2 I.length p2, .slice a3 R.length p3]] w fun e w' => WEnd w0.heap.size w wb (out ++ datB (h + 1) (7, n, b, L, t, I, R)) e w' := by
  have hE : out ++ datB (h + 1) (7, n, b, L, t, I, R) = (((out ++ numB 7) ++ numB I.length) ++ I.flatMap (datB h)) := by
    simp [datB, List.append_assoc]
  rw [hE] at hl ⊢
  clear hE
  obtain ⟨q0, hq0⟩ : ∃ q, q = out ++ numB 7 := ⟨_, rfl⟩
  rw [← hq0] at hl ⊢
  obtain ⟨q1, hq1⟩ : ∃ q, q = (q0 ++ numB I.length) ++ I.flatMap (datB h) := ⟨_, rfl⟩
  rw [← hq1] at hl ⊢
  have m1 : q1.length ≤ 1000000000 := hl
  have M1 := m1
  have m0 : q0.length ≤ 1000000000 := by
    rw [hq1] at m1
    simp only [List.length_append] at m1
    omega
  have M0 := m0
  have HK0 := hide (fun (W : World) (hw : WO w0.heap.size W wb out) (hb : w0.heap.size ≤ W.heap.size) => show Calls Try.prog 40 #[.pointer (some ⟨wb, 0, none⟩), .int .i64 7] W fun e w' => WEnd w0.heap.size W wb q0 e w' by
    rw [hq0] at m0 ⊢
    exact number_any w0.heap.size W wb out 7 hw (by omega) m0 hb)
  have HK1 := hide (fun (W : World) (hw : WO w0.heap.size W wb q0) (hu : Up w0 W) => show Calls Try.prog 57 #[.pointer (some ⟨wb, 0, none⟩), .slice a2 I.length p2] W fun e w' => WEnd w0.heap.size W wb q1 e w' by
    have m1' : q1.length ≤ 1000000000 := M1
    exact wdata_of hC w0 W wb q0 I (.slice a2 I.length p2) dp hI hu hw hgI q1 hq1 m1')
  have HU := hide hU
  have HB0 : Hid (DBx (w.alloc (.cells #[.int .i64 7, .int .i64 n, .bool b, .slice a1 L.length p1, .string t, .slice a2 I.length p2, .slice a3 R.length p3] 64)) w.heap.size (.int .i64 7) (.int .i64 n) (.bool b) (.slice a1 L.length p1) (.string t) (.slice a2 I.length p2) (.slice a3 R.length p3)) := hide (heap_alloc_new w _)
  have HW0 : Hid (WO w0.heap.size (w.alloc (.cells #[.int .i64 7, .int .i64 n, .bool b, .slice a1 L.length p1, .string t, .slice a2 I.length p2, .slice a3 R.length p3] 64)) wb out) := hide (hW.keep ((Fr.refl _ _).alloc _))
  clear _hM _hlim hI _hR hU hW _hn hgI _hgR hl hC hq0 hq1 m0 m1
  go_enter Try.func71, Try.ntmps71
  go_wp2_with (first
    | (go_at_call 40; refine (HK0.out _ HW0.out (Nat.le_trans HU.out.size ((Fr.refl (fun _ => False) w).alloc _).size)).mono ?_; rintro e1 x1 ⟨rfl, hw1, F1⟩; have b1 := HB0.out.fw F1; have u10 := b1.k0; have u11 := b1.k1; have u12 := b1.k2; have u13 := b1.k3; have u14 := b1.k4; have u15 := b1.k5; have u16 := b1.k6; have HW1 := hide hw1; have HF1 := hide ((FW.of (B := w0.heap.size) ((Fr.refl _ w).alloc _)).trans F1); have HB1 := hide b1; clear hw1 F1 b1)
    | (go_at_call 57; refine (HK1.out _ HW1.out (HF1.out.up HU.out)).mono ?_; rintro e2 x2 ⟨rfl, hw2, F2⟩; have b2 := HB1.out.fw F2; have u20 := b2.k0; have u21 := b2.k1; have u22 := b2.k2; have u23 := b2.k3; have u24 := b2.k4; have u25 := b2.k5; have u26 := b2.k6; have HW2 := hide hw2; have HF2 := hide (HF1.out.trans F2); have HB2 := hide b2; clear hw2 F2 b2))
  exact bodyPost_end (results_none rfl _ _ _) rfl ⟨rfl, HW2.out, HF2.out⟩

set_option maxRecDepth 100000 in
set_option maxHeartbeats 1000000 in
theorem wdatum_8 {h : Nat} (_hC : DatWOK h) (w0 w : World) (wb : Nat) (out : List Nat) (n : Int) (b : Bool) (L : List Nat) (t : ByteArray) (I R : List (Tr h)) (a1 a2 a3 : Option Addr) (p1 p2 p3 dp : Nat) (_hM : Sl .u32 w0 (.slice a1 L.length p1) L.length (fun i => L.getD i 0)) (_hlim : ∀ i, i < L.length → L.getD i 0 < 4294967296) (_hI : RowD w0 (DatC w0 h) (.slice a2 I.length p2) I) (_hR : RowD w0 (DatC w0 h) (.slice a3 R.length p3) R) (hU : Up w0 w) (hW : WO w0.heap.size w wb out) (_hn : -549755813888 ≤ n ∧ n ≤ 549755813888) (_hgI : I.all (goodD h dp) = true) (_hgR : R.all (goodD h dp) = true) (hl : (out ++ datB (h + 1) (8, n, b, L, t, I, R)).length ≤ 1000000000) :
    Calls Try.prog 71 #[.pointer (some ⟨wb, 0, none⟩), .agg #[.int .i64 8, .int .i64 n, .bool b, .slice a1 L.length p1, .string t, .slice a2 I.length p2, .slice a3 R.length p3]] w fun e w' => WEnd w0.heap.size w wb (out ++ datB (h + 1) (8, n, b, L, t, I, R)) e w' := by
  have hE : out ++ datB (h + 1) (8, n, b, L, t, I, R) = (out ++ numB 8) := by
    simp [datB]
  rw [hE] at hl ⊢
  clear hE
  obtain ⟨q0, hq0⟩ : ∃ q, q = out ++ numB 8 := ⟨_, rfl⟩
  rw [← hq0] at hl ⊢
  have m0 : q0.length ≤ 1000000000 := hl
  have M0 := m0
  have HK0 := hide (fun (W : World) (hw : WO w0.heap.size W wb out) (hb : w0.heap.size ≤ W.heap.size) => show Calls Try.prog 40 #[.pointer (some ⟨wb, 0, none⟩), .int .i64 8] W fun e w' => WEnd w0.heap.size W wb q0 e w' by
    rw [hq0] at m0 ⊢
    exact number_any w0.heap.size W wb out 8 hw (by omega) m0 hb)
  have HU := hide hU
  have HB0 : Hid (DBx (w.alloc (.cells #[.int .i64 8, .int .i64 n, .bool b, .slice a1 L.length p1, .string t, .slice a2 I.length p2, .slice a3 R.length p3] 64)) w.heap.size (.int .i64 8) (.int .i64 n) (.bool b) (.slice a1 L.length p1) (.string t) (.slice a2 I.length p2) (.slice a3 R.length p3)) := hide (heap_alloc_new w _)
  have HW0 : Hid (WO w0.heap.size (w.alloc (.cells #[.int .i64 8, .int .i64 n, .bool b, .slice a1 L.length p1, .string t, .slice a2 I.length p2, .slice a3 R.length p3] 64)) wb out) := hide (hW.keep ((Fr.refl _ _).alloc _))
  clear _hM _hlim _hI _hR hU hW _hn _hgI _hgR hl _hC hq0 m0
  go_enter Try.func71, Try.ntmps71
  go_wp2_with (first
    | (go_at_call 40; refine (HK0.out _ HW0.out (Nat.le_trans HU.out.size ((Fr.refl (fun _ => False) w).alloc _).size)).mono ?_; rintro e1 x1 ⟨rfl, hw1, F1⟩; have b1 := HB0.out.fw F1; have u10 := b1.k0; have u11 := b1.k1; have u12 := b1.k2; have u13 := b1.k3; have u14 := b1.k4; have u15 := b1.k5; have u16 := b1.k6; have HW1 := hide hw1; have HF1 := hide ((FW.of (B := w0.heap.size) ((Fr.refl _ w).alloc _)).trans F1); have HB1 := hide b1; clear hw1 F1 b1))
  exact bodyPost_end (results_none rfl _ _ _) rfl ⟨rfl, HW1.out, HF1.out⟩

set_option maxRecDepth 100000 in
set_option maxHeartbeats 1000000 in
theorem wdatum_9 {h : Nat} (_hC : DatWOK h) (w0 w : World) (wb : Nat) (out : List Nat) (n : Int) (b : Bool) (L : List Nat) (t : ByteArray) (I R : List (Tr h)) (a1 a2 a3 : Option Addr) (p1 p2 p3 dp : Nat) (_hM : Sl .u32 w0 (.slice a1 L.length p1) L.length (fun i => L.getD i 0)) (_hlim : ∀ i, i < L.length → L.getD i 0 < 4294967296) (_hI : RowD w0 (DatC w0 h) (.slice a2 I.length p2) I) (_hR : RowD w0 (DatC w0 h) (.slice a3 R.length p3) R) (hU : Up w0 w) (hW : WO w0.heap.size w wb out) (hn : -549755813888 ≤ n ∧ n ≤ 549755813888) (_hgI : I.all (goodD h dp) = true) (_hgR : R.all (goodD h dp) = true) (hl : (out ++ datB (h + 1) (9, n, b, L, t, I, R)).length ≤ 1000000000) :
    Calls Try.prog 71 #[.pointer (some ⟨wb, 0, none⟩), .agg #[.int .i64 9, .int .i64 n, .bool b, .slice a1 L.length p1, .string t, .slice a2 I.length p2, .slice a3 R.length p3]] w fun e w' => WEnd w0.heap.size w wb (out ++ datB (h + 1) (9, n, b, L, t, I, R)) e w' := by
  have hE : out ++ datB (h + 1) (9, n, b, L, t, I, R) = ((out ++ numB 9) ++ numB (sgnN n)) := by
    simp [datB, List.append_assoc]
  rw [hE] at hl ⊢
  clear hE
  obtain ⟨q0, hq0⟩ : ∃ q, q = out ++ numB 9 := ⟨_, rfl⟩
  rw [← hq0] at hl ⊢
  obtain ⟨q1, hq1⟩ : ∃ q, q = q0 ++ numB (sgnN n) := ⟨_, rfl⟩
  rw [← hq1] at hl ⊢
  have m1 : q1.length ≤ 1000000000 := hl
  have M1 := m1
  have m0 : q0.length ≤ 1000000000 := by
    rw [hq1] at m1
    simp only [List.length_append] at m1
    omega
  have M0 := m0
  have HK0 := hide (fun (W : World) (hw : WO w0.heap.size W wb out) (hb : w0.heap.size ≤ W.heap.size) => show Calls Try.prog 40 #[.pointer (some ⟨wb, 0, none⟩), .int .i64 9] W fun e w' => WEnd w0.heap.size W wb q0 e w' by
    rw [hq0] at m0 ⊢
    exact number_any w0.heap.size W wb out 9 hw (by omega) m0 hb)
  have HK1 := hide (fun (W : World) (hw : WO w0.heap.size W wb q0) (hu : Up w0 W) => show Calls Try.prog 56 #[.pointer (some ⟨wb, 0, none⟩), .int .i64 n] W fun e w' => WEnd w0.heap.size W wb q1 e w' by
    have m1' : q1.length ≤ 1000000000 := M1
    rw [hq1] at m1' ⊢
    exact signed_any w0.heap.size W wb q0 n hw hn.1 hn.2  m1' hu.size)
  have HU := hide hU
  have HB0 : Hid (DBx (w.alloc (.cells #[.int .i64 9, .int .i64 n, .bool b, .slice a1 L.length p1, .string t, .slice a2 I.length p2, .slice a3 R.length p3] 64)) w.heap.size (.int .i64 9) (.int .i64 n) (.bool b) (.slice a1 L.length p1) (.string t) (.slice a2 I.length p2) (.slice a3 R.length p3)) := hide (heap_alloc_new w _)
  have HW0 : Hid (WO w0.heap.size (w.alloc (.cells #[.int .i64 9, .int .i64 n, .bool b, .slice a1 L.length p1, .string t, .slice a2 I.length p2, .slice a3 R.length p3] 64)) wb out) := hide (hW.keep ((Fr.refl _ _).alloc _))
  clear _hM _hlim _hI _hR hU hW hn _hgI _hgR hl _hC hq0 hq1 m0 m1
  go_enter Try.func71, Try.ntmps71
  go_wp2_with (first
    | (go_at_call 40; refine (HK0.out _ HW0.out (Nat.le_trans HU.out.size ((Fr.refl (fun _ => False) w).alloc _).size)).mono ?_; rintro e1 x1 ⟨rfl, hw1, F1⟩; have b1 := HB0.out.fw F1; have u10 := b1.k0; have u11 := b1.k1; have u12 := b1.k2; have u13 := b1.k3; have u14 := b1.k4; have u15 := b1.k5; have u16 := b1.k6; have HW1 := hide hw1; have HF1 := hide ((FW.of (B := w0.heap.size) ((Fr.refl _ w).alloc _)).trans F1); have HB1 := hide b1; clear hw1 F1 b1)
    | (go_at_call 56; refine (HK1.out _ HW1.out (HF1.out.up HU.out)).mono ?_; rintro e2 x2 ⟨rfl, hw2, F2⟩; have b2 := HB1.out.fw F2; have u20 := b2.k0; have u21 := b2.k1; have u22 := b2.k2; have u23 := b2.k3; have u24 := b2.k4; have u25 := b2.k5; have u26 := b2.k6; have HW2 := hide hw2; have HF2 := hide (HF1.out.trans F2); have HB2 := hide b2; clear hw2 F2 b2))
  exact bodyPost_end (results_none rfl _ _ _) rfl ⟨rfl, HW2.out, HF2.out⟩

theorem wdatum_of {h : Nat} (hC : DatWOK h) : DatWOK (h + 1) := by
  intro w0 w wb out d c0 c1 c2 c3 c4 c5 c6 dp hd hU hW hg hl
  obtain ⟨k, n, b, L, t, I, R⟩ := d
  obtain ⟨um, ui, ur, e, -, hM, hlim, hI, hR⟩ := hd
  obtain ⟨a1, p1, rfl, r1⟩ := hM
  obtain ⟨a2, p2, rfl⟩ := hI.shape
  obtain ⟨a3, p3, rfl⟩ := hR.shape
  cases e
  cases dp with
  | zero => cases hg
  | succ dp =>
    simp only [goodD, Bool.and_eq_true] at hg
    obtain ⟨hf, hgI, hgR⟩ := hg
    simp only [fit1, Bool.and_eq_true, decide_eq_true_eq] at hf
    have hn := half_le hf.2.1.1
    have hk1 := hf.1.1
    have hk2 := hf.1.2
    have hM' : Sl .u32 w0 (.slice a1 L.length p1) L.length (fun i => L.getD i 0) := ⟨a1, p1, rfl, r1⟩
    have hk : k = 1 ∨ k = 2 ∨ k = 3 ∨ k = 4 ∨ k = 5 ∨ k = 6 ∨ k = 7 ∨ k = 8 ∨ k = 9 := by omega
    clear hf hk1 hk2
    rcases hk with rfl | rfl | rfl | rfl | rfl | rfl | rfl | rfl | rfl
    · exact wdatum_1 hC w0 w wb out n b L t I R a1 a2 a3 p1 p2 p3 dp hM' hlim hI hR hU hW hn hgI hgR hl
    · exact wdatum_2 hC w0 w wb out n b L t I R a1 a2 a3 p1 p2 p3 dp hM' hlim hI hR hU hW hn hgI hgR hl
    · exact wdatum_3 hC w0 w wb out n b L t I R a1 a2 a3 p1 p2 p3 dp hM' hlim hI hR hU hW hn hgI hgR hl
    · exact wdatum_4 hC w0 w wb out n b L t I R a1 a2 a3 p1 p2 p3 dp hM' hlim hI hR hU hW hn hgI hgR hl
    · exact wdatum_5 hC w0 w wb out n b L t I R a1 a2 a3 p1 p2 p3 dp hM' hlim hI hR hU hW hn hgI hgR hl
    · exact wdatum_6 hC w0 w wb out n b L t I R a1 a2 a3 p1 p2 p3 dp hM' hlim hI hR hU hW hn hgI hgR hl
    · exact wdatum_7 hC w0 w wb out n b L t I R a1 a2 a3 p1 p2 p3 dp hM' hlim hI hR hU hW hn hgI hgR hl
    · exact wdatum_8 hC w0 w wb out n b L t I R a1 a2 a3 p1 p2 p3 dp hM' hlim hI hR hU hW hn hgI hgR hl
    · exact wdatum_9 hC w0 w wb out n b L t I R a1 a2 a3 p1 p2 p3 dp hM' hlim hI hR hU hW hn hgI hgR hl
theorem wdatum_all : (h : Nat) → DatWOK h
  | 0 => fun _ _ _ _ _ _ _ _ _ _ _ _ _ hd => hd.elim
  | h + 1 => wdatum_of (wdatum_all h)

end Go.Proofs.Ytilcigjhogcjkaa
