/-
  What is proved here: what may be written (package pack): fits.
-/
import Derived.Test.YtilcigjhogcjkaaPKFit2
import Derived.Test.YtilcigjhogcjkaaPKDm
namespace Go.Proofs.Ytilcigjhogcjkaa
open Go Go.RowKit

theorem DBx.fr {w w' : World} {B : Nat} {c0 c1 c2 c3 c4 c5 c6 : Value} (h : DBx w B c0 c1 c2 c3 c4 c5 c6) (hf : Fr (fun _ => False) w w') : DBx w' B c0 c1 c2 c3 c4 c5 c6 := (hf.block B (Array.getElem?_eq_some_iff.1 h).1 (fun e => e)).trans h
theorem DBx.lt {w : World} {B : Nat} {c0 c1 c2 c3 c4 c5 c6 : Value} (h : DBx w B c0 c1 c2 c3 c4 c5 c6) : B < w.heap.size := (Array.getElem?_eq_some_iff.1 h).1
def FBx (w : World) (B : Nat) (c0 c1 c2 c3 : Value) : Prop := w.heap[B]? = some (.cells #[c0, c1, c2, c3] 111 (0, 0))
theorem FBx.fr {w w' : World} {B : Nat} {c0 c1 c2 c3 : Value} (h : FBx w B c0 c1 c2 c3) (hf : Fr (fun _ => False) w w') : FBx w' B c0 c1 c2 c3 := (hf.block B (Array.getElem?_eq_some_iff.1 h).1 (fun e => e)).trans h
theorem FBx.k0 {w : World} {B : Nat} {c0 c1 c2 c3 : Value} (h : FBx w B c0 c1 c2 c3) : w.cell? ⟨B, 0, none⟩ = some c0 := by
  rw [cell_of_row w B 0 _ _ _ h]
  rfl
theorem FBx.k1 {w : World} {B : Nat} {c0 c1 c2 c3 : Value} (h : FBx w B c0 c1 c2 c3) : w.cell? ⟨B, 1, none⟩ = some c1 := by
  rw [cell_of_row w B 1 _ _ _ h]
  rfl
theorem FBx.k2 {w : World} {B : Nat} {c0 c1 c2 c3 : Value} (h : FBx w B c0 c1 c2 c3) : w.cell? ⟨B, 2, none⟩ = some c2 := by
  rw [cell_of_row w B 2 _ _ _ h]
  rfl
theorem FBx.k3 {w : World} {B : Nat} {c0 c1 c2 c3 : Value} (h : FBx w B c0 c1 c2 c3) : w.cell? ⟨B, 3, none⟩ = some c3 := by
  rw [cell_of_row w B 3 _ _ _ h]
  rfl
theorem fit1_eq {h : Nat} (k n : Int) (b : Bool) (L : List Nat) (t : ByteArray) (I R : List (Tr h)) : fit1 (h := h) (k, n, b, L, t, I, R) = (kOK k && (half n && (hasN k || decide (n = 0)) && (canB b L && (hasM k || decide (L.length = 0)) && (hasT k || decide (t.size = 0)) && (hasI k || decide (I.length = 0)) && restF k I.length R))) := rfl

set_option maxRecDepth 100000 in
set_option maxHeartbeats 4000000 in
theorem fits_any {h : Nat} (w0 w : World) (k n : Int) (b : Bool) (L : List Nat) (t : ByteArray) (I R : List (Tr h)) (a1 a2 a3 : Option Addr) (p1 p2 p3 : Nat) (hM : Sl .u32 w0 (.slice a1 L.length p1) L.length (fun i => L.getD i 0)) (hlim : ∀ i, i < L.length → L.getD i 0 < 4294967296) (hR : RowD w0 (DatC w0 h) (.slice a3 R.length p3) R) (hU : Up w0 w) :
    Calls Try.prog 53 #[.agg #[.int .i64 k, .int .i64 n, .bool b, .slice a1 L.length p1, .string t, .slice a2 I.length p2, .slice a3 R.length p3]] w fun e w' => e = .returned (.bool (fit1 (h := h) (k, n, b, L, t, I, R))) ∧ Fr (fun _ => False) w w' := by
  rw [fit1_eq]
  have HIC := hide (fun (W : World) (hf : Fr (fun _ => False) w W) => isCanonical_any w0 W b L _ hM (up_new hU hf) hlim)
  have HRF := hide (fun (W : World) (hf : Fr (fun _ => False) w W) => restFits_any w0 W k n b _ t I R a1 a2 a3 L.length p1 p2 p3 rfl hR (up_new hU hf))
  have HFO := hide (fun (W : World) => fieldsOf_any W k)
  have HIS := hide (fun (W : World) => isSigned_any n W)
  simp only [FieldsEnd] at HFO
  have gn : (n == 0) = decide (n = 0) := rfl
  have gl : ((L.length : Int) == 0) = decide (L.length = 0) := by rw [Bool.eq_iff_iff]; simp
  have gi : ((I.length : Int) == 0) = decide (I.length = 0) := by rw [Bool.eq_iff_iff]; simp
  generalize decide (n = 0) = nz at *
  generalize decide (L.length = 0) = lz at *
  have HTZ : Hid (decide (t.size = 0) = true ↔ t.toList = []) := by
    unfold Hid
    rw [decide_eq_true_eq, ByteArray.toList_eq, ← List.length_eq_zero_iff, Array.length_toList]
    rfl
  generalize decide (t.size = 0) = tz at *
  generalize decide (I.length = 0) = iz at *
  generalize hasN k = hn at *
  generalize hasM k = hm at *
  generalize hasT k = ht at *
  generalize hasI k = hi at *
  generalize kOK k = b1 at *
  generalize half n = b2 at *
  generalize canB b L = cb at *
  generalize restF k I.length R = rf at *
  clear hM hlim hR hU
  go_enter Try.func53, Try.ntmps53
  have HB0 : Hid (DBx (w.alloc (.cells #[.int .i64 k, .int .i64 n, .bool b, .slice a1 L.length p1, .string t, .slice a2 I.length p2, .slice a3 R.length p3] 64)) w.heap.size (.int .i64 k) (.int .i64 n) (.bool b) (.slice a1 L.length p1) (.string t) (.slice a2 I.length p2) (.slice a3 R.length p3)) := hide (heap_alloc_new w _)
  go_upto_region 2 with (go_at_call 68; refine (HFO.out _).mono ?_; rintro e1 w1 ⟨rfl, F1⟩; have b1x := HB0.out.fr F1; have hs1 := b1x.lt; have y10 := b1x.k0; have y11 := b1x.k1; have y12 := b1x.k2; have y13 := b1x.k3; have y14 := b1x.k4; have y15 := b1x.k5; have y16 := b1x.k6; have HF1 := hide ((Fr.trans (S := fun _ => False) ((Fr.refl _ w).alloc _) F1 (fun _ _ e => e)).alloc (.cells #[.bool hn, .bool hm, .bool ht, .bool hi] 111)); have HB1 := hide (b1x.fr ((Fr.refl _ _).alloc (.cells #[.bool hn, .bool hm, .bool ht, .bool hi] 111))); clear F1 b1x)
  cases b1
  · go_wp2_with (first
      | (go_at_call 52; refine (HIS.out _).mono ?_; rintro e2 w2 ⟨rfl, rfl⟩)
      | (go_at_call 69; refine (HIC.out _ HF1.out).mono ?_; rintro e3 w3 ⟨rfl, F3⟩; have b3x := HB1.out.fr F3; have y30 := b3x.k0; have y31 := b3x.k1; have y32 := b3x.k2; have y33 := b3x.k3; have y34 := b3x.k4; have y35 := b3x.k5; have y36 := b3x.k6; have m3 := FBx.fr (heap_alloc_new w1 _) F3; have f30 := m3.k0; have f31 := m3.k1; have f32 := m3.k2; have f33 := m3.k3; have HF3 := hide (HF1.out.trans F3 (fun _ _ e => e)); clear F3 b3x m3)
      | (go_at_call 70; refine (HRF.out _ HF3.out).mono ?_; rintro e4 w4 ⟨rfl, F4⟩; have HF4 := hide (HF3.out.trans F4 (fun _ _ e => e)); clear F4))
    go_ret
    exact ⟨by simp, HF1.out⟩
  · cases b2
    · go_wp2_with (first
        | (go_at_call 52; refine (HIS.out _).mono ?_; rintro e2 w2 ⟨rfl, rfl⟩)
        | (go_at_call 69; refine (HIC.out _ HF1.out).mono ?_; rintro e3 w3 ⟨rfl, F3⟩; have b3x := HB1.out.fr F3; have y30 := b3x.k0; have y31 := b3x.k1; have y32 := b3x.k2; have y33 := b3x.k3; have y34 := b3x.k4; have y35 := b3x.k5; have y36 := b3x.k6; have m3 := FBx.fr (heap_alloc_new w1 _) F3; have f30 := m3.k0; have f31 := m3.k1; have f32 := m3.k2; have f33 := m3.k3; have HF3 := hide (HF1.out.trans F3 (fun _ _ e => e)); clear F3 b3x m3)
        | (go_at_call 70; refine (HRF.out _ HF3.out).mono ?_; rintro e4 w4 ⟨rfl, F4⟩; have HF4 := hide (HF3.out.trans F4 (fun _ _ e => e)); clear F4))
      go_ret
      exact ⟨by simp, HF1.out⟩
    · cases hn
      · cases nz
        · go_wp2_with (first
            | (go_at_call 52; refine (HIS.out _).mono ?_; rintro e2 w2 ⟨rfl, rfl⟩)
            | (go_at_call 69; refine (HIC.out _ HF1.out).mono ?_; rintro e3 w3 ⟨rfl, F3⟩; have b3x := HB1.out.fr F3; have y30 := b3x.k0; have y31 := b3x.k1; have y32 := b3x.k2; have y33 := b3x.k3; have y34 := b3x.k4; have y35 := b3x.k5; have y36 := b3x.k6; have m3 := FBx.fr (heap_alloc_new w1 _) F3; have f30 := m3.k0; have f31 := m3.k1; have f32 := m3.k2; have f33 := m3.k3; have HF3 := hide (HF1.out.trans F3 (fun _ _ e => e)); clear F3 b3x m3)
            | (go_at_call 70; refine (HRF.out _ HF3.out).mono ?_; rintro e4 w4 ⟨rfl, F4⟩; have HF4 := hide (HF3.out.trans F4 (fun _ _ e => e)); clear F4))
          go_ret
          exact ⟨by simp, HF1.out⟩
        · cases cb
          · go_wp2_with (first
              | (go_at_call 52; refine (HIS.out _).mono ?_; rintro e2 w2 ⟨rfl, rfl⟩)
              | (go_at_call 69; refine (HIC.out _ HF1.out).mono ?_; rintro e3 w3 ⟨rfl, F3⟩; have b3x := HB1.out.fr F3; have y30 := b3x.k0; have y31 := b3x.k1; have y32 := b3x.k2; have y33 := b3x.k3; have y34 := b3x.k4; have y35 := b3x.k5; have y36 := b3x.k6; have m3 := FBx.fr (heap_alloc_new w1 _) F3; have f30 := m3.k0; have f31 := m3.k1; have f32 := m3.k2; have f33 := m3.k3; have HF3 := hide (HF1.out.trans F3 (fun _ _ e => e)); clear F3 b3x m3)
              | (go_at_call 70; refine (HRF.out _ HF3.out).mono ?_; rintro e4 w4 ⟨rfl, F4⟩; have HF4 := hide (HF3.out.trans F4 (fun _ _ e => e)); clear F4))
            go_ret
            exact ⟨by simp, HF3.out⟩
          · cases hm
            · cases lz
              · go_wp2_with (first
                  | (go_at_call 52; refine (HIS.out _).mono ?_; rintro e2 w2 ⟨rfl, rfl⟩)
                  | (go_at_call 69; refine (HIC.out _ HF1.out).mono ?_; rintro e3 w3 ⟨rfl, F3⟩; have b3x := HB1.out.fr F3; have y30 := b3x.k0; have y31 := b3x.k1; have y32 := b3x.k2; have y33 := b3x.k3; have y34 := b3x.k4; have y35 := b3x.k5; have y36 := b3x.k6; have m3 := FBx.fr (heap_alloc_new w1 _) F3; have f30 := m3.k0; have f31 := m3.k1; have f32 := m3.k2; have f33 := m3.k3; have HF3 := hide (HF1.out.trans F3 (fun _ _ e => e)); clear F3 b3x m3)
                  | (go_at_call 70; refine (HRF.out _ HF3.out).mono ?_; rintro e4 w4 ⟨rfl, F4⟩; have HF4 := hide (HF3.out.trans F4 (fun _ _ e => e)); clear F4))
                go_ret
                exact ⟨by simp, HF3.out⟩
              · cases ht
                · cases tz
                  · have q1 : ¬ t.toList = [] := fun e => absurd (HTZ.out.2 e) (by decide)
                    have q2 : (t.toList == []) = false := by rw [beq_eq_false_iff_ne]; exact q1
                    go_wp2_with (first
                      | (go_at_call 52; refine (HIS.out _).mono ?_; rintro e2 w2 ⟨rfl, rfl⟩)
                      | (go_at_call 69; refine (HIC.out _ HF1.out).mono ?_; rintro e3 w3 ⟨rfl, F3⟩; have b3x := HB1.out.fr F3; have y30 := b3x.k0; have y31 := b3x.k1; have y32 := b3x.k2; have y33 := b3x.k3; have y34 := b3x.k4; have y35 := b3x.k5; have y36 := b3x.k6; have m3 := FBx.fr (heap_alloc_new w1 _) F3; have f30 := m3.k0; have f31 := m3.k1; have f32 := m3.k2; have f33 := m3.k3; have HF3 := hide (HF1.out.trans F3 (fun _ _ e => e)); clear F3 b3x m3)
                      | (go_at_call 70; refine (HRF.out _ HF3.out).mono ?_; rintro e4 w4 ⟨rfl, F4⟩; have HF4 := hide (HF3.out.trans F4 (fun _ _ e => e)); clear F4))
                    go_ret
                    exact ⟨by simp, HF3.out⟩
                  · have q1 : t.toList = [] := HTZ.out.1 rfl
                    have q2 : (t.toList == []) = true := by rw [q1]; rfl
                    cases hi
                    · cases iz
                      · go_wp2_with (first
                          | (go_at_call 52; refine (HIS.out _).mono ?_; rintro e2 w2 ⟨rfl, rfl⟩)
                          | (go_at_call 69; refine (HIC.out _ HF1.out).mono ?_; rintro e3 w3 ⟨rfl, F3⟩; have b3x := HB1.out.fr F3; have y30 := b3x.k0; have y31 := b3x.k1; have y32 := b3x.k2; have y33 := b3x.k3; have y34 := b3x.k4; have y35 := b3x.k5; have y36 := b3x.k6; have m3 := FBx.fr (heap_alloc_new w1 _) F3; have f30 := m3.k0; have f31 := m3.k1; have f32 := m3.k2; have f33 := m3.k3; have HF3 := hide (HF1.out.trans F3 (fun _ _ e => e)); clear F3 b3x m3)
                          | (go_at_call 70; refine (HRF.out _ HF3.out).mono ?_; rintro e4 w4 ⟨rfl, F4⟩; have HF4 := hide (HF3.out.trans F4 (fun _ _ e => e)); clear F4))
                        go_ret
                        exact ⟨by simp, HF3.out⟩
                      · go_wp2_with (first
                          | (go_at_call 52; refine (HIS.out _).mono ?_; rintro e2 w2 ⟨rfl, rfl⟩)
                          | (go_at_call 69; refine (HIC.out _ HF1.out).mono ?_; rintro e3 w3 ⟨rfl, F3⟩; have b3x := HB1.out.fr F3; have y30 := b3x.k0; have y31 := b3x.k1; have y32 := b3x.k2; have y33 := b3x.k3; have y34 := b3x.k4; have y35 := b3x.k5; have y36 := b3x.k6; have m3 := FBx.fr (heap_alloc_new w1 _) F3; have f30 := m3.k0; have f31 := m3.k1; have f32 := m3.k2; have f33 := m3.k3; have HF3 := hide (HF1.out.trans F3 (fun _ _ e => e)); clear F3 b3x m3)
                          | (go_at_call 70; refine (HRF.out _ HF3.out).mono ?_; rintro e4 w4 ⟨rfl, F4⟩; have HF4 := hide (HF3.out.trans F4 (fun _ _ e => e)); clear F4))
                        go_ret
                        exact ⟨by simp, HF4.out⟩
                    · go_wp2_with (first
                        | (go_at_call 52; refine (HIS.out _).mono ?_; rintro e2 w2 ⟨rfl, rfl⟩)
                        | (go_at_call 69; refine (HIC.out _ HF1.out).mono ?_; rintro e3 w3 ⟨rfl, F3⟩; have b3x := HB1.out.fr F3; have y30 := b3x.k0; have y31 := b3x.k1; have y32 := b3x.k2; have y33 := b3x.k3; have y34 := b3x.k4; have y35 := b3x.k5; have y36 := b3x.k6; have m3 := FBx.fr (heap_alloc_new w1 _) F3; have f30 := m3.k0; have f31 := m3.k1; have f32 := m3.k2; have f33 := m3.k3; have HF3 := hide (HF1.out.trans F3 (fun _ _ e => e)); clear F3 b3x m3)
                        | (go_at_call 70; refine (HRF.out _ HF3.out).mono ?_; rintro e4 w4 ⟨rfl, F4⟩; have HF4 := hide (HF3.out.trans F4 (fun _ _ e => e)); clear F4))
                      go_ret
                      exact ⟨by simp, HF4.out⟩
                · cases hi
                  · cases iz
                    · go_wp2_with (first
                        | (go_at_call 52; refine (HIS.out _).mono ?_; rintro e2 w2 ⟨rfl, rfl⟩)
                        | (go_at_call 69; refine (HIC.out _ HF1.out).mono ?_; rintro e3 w3 ⟨rfl, F3⟩; have b3x := HB1.out.fr F3; have y30 := b3x.k0; have y31 := b3x.k1; have y32 := b3x.k2; have y33 := b3x.k3; have y34 := b3x.k4; have y35 := b3x.k5; have y36 := b3x.k6; have m3 := FBx.fr (heap_alloc_new w1 _) F3; have f30 := m3.k0; have f31 := m3.k1; have f32 := m3.k2; have f33 := m3.k3; have HF3 := hide (HF1.out.trans F3 (fun _ _ e => e)); clear F3 b3x m3)
                        | (go_at_call 70; refine (HRF.out _ HF3.out).mono ?_; rintro e4 w4 ⟨rfl, F4⟩; have HF4 := hide (HF3.out.trans F4 (fun _ _ e => e)); clear F4))
                      go_ret
                      exact ⟨by simp, HF3.out⟩
                    · go_wp2_with (first
                        | (go_at_call 52; refine (HIS.out _).mono ?_; rintro e2 w2 ⟨rfl, rfl⟩)
                        | (go_at_call 69; refine (HIC.out _ HF1.out).mono ?_; rintro e3 w3 ⟨rfl, F3⟩; have b3x := HB1.out.fr F3; have y30 := b3x.k0; have y31 := b3x.k1; have y32 := b3x.k2; have y33 := b3x.k3; have y34 := b3x.k4; have y35 := b3x.k5; have y36 := b3x.k6; have m3 := FBx.fr (heap_alloc_new w1 _) F3; have f30 := m3.k0; have f31 := m3.k1; have f32 := m3.k2; have f33 := m3.k3; have HF3 := hide (HF1.out.trans F3 (fun _ _ e => e)); clear F3 b3x m3)
                        | (go_at_call 70; refine (HRF.out _ HF3.out).mono ?_; rintro e4 w4 ⟨rfl, F4⟩; have HF4 := hide (HF3.out.trans F4 (fun _ _ e => e)); clear F4))
                      go_ret
                      exact ⟨by simp, HF4.out⟩
                  · go_wp2_with (first
                      | (go_at_call 52; refine (HIS.out _).mono ?_; rintro e2 w2 ⟨rfl, rfl⟩)
                      | (go_at_call 69; refine (HIC.out _ HF1.out).mono ?_; rintro e3 w3 ⟨rfl, F3⟩; have b3x := HB1.out.fr F3; have y30 := b3x.k0; have y31 := b3x.k1; have y32 := b3x.k2; have y33 := b3x.k3; have y34 := b3x.k4; have y35 := b3x.k5; have y36 := b3x.k6; have m3 := FBx.fr (heap_alloc_new w1 _) F3; have f30 := m3.k0; have f31 := m3.k1; have f32 := m3.k2; have f33 := m3.k3; have HF3 := hide (HF1.out.trans F3 (fun _ _ e => e)); clear F3 b3x m3)
                      | (go_at_call 70; refine (HRF.out _ HF3.out).mono ?_; rintro e4 w4 ⟨rfl, F4⟩; have HF4 := hide (HF3.out.trans F4 (fun _ _ e => e)); clear F4))
                    go_ret
                    exact ⟨by simp, HF4.out⟩
            · cases ht
              · cases tz
                · have q1 : ¬ t.toList = [] := fun e => absurd (HTZ.out.2 e) (by decide)
                  have q2 : (t.toList == []) = false := by rw [beq_eq_false_iff_ne]; exact q1
                  go_wp2_with (first
                    | (go_at_call 52; refine (HIS.out _).mono ?_; rintro e2 w2 ⟨rfl, rfl⟩)
                    | (go_at_call 69; refine (HIC.out _ HF1.out).mono ?_; rintro e3 w3 ⟨rfl, F3⟩; have b3x := HB1.out.fr F3; have y30 := b3x.k0; have y31 := b3x.k1; have y32 := b3x.k2; have y33 := b3x.k3; have y34 := b3x.k4; have y35 := b3x.k5; have y36 := b3x.k6; have m3 := FBx.fr (heap_alloc_new w1 _) F3; have f30 := m3.k0; have f31 := m3.k1; have f32 := m3.k2; have f33 := m3.k3; have HF3 := hide (HF1.out.trans F3 (fun _ _ e => e)); clear F3 b3x m3)
                    | (go_at_call 70; refine (HRF.out _ HF3.out).mono ?_; rintro e4 w4 ⟨rfl, F4⟩; have HF4 := hide (HF3.out.trans F4 (fun _ _ e => e)); clear F4))
                  go_ret
                  exact ⟨by simp, HF3.out⟩
                · have q1 : t.toList = [] := HTZ.out.1 rfl
                  have q2 : (t.toList == []) = true := by rw [q1]; rfl
                  cases hi
                  · cases iz
                    · go_wp2_with (first
                        | (go_at_call 52; refine (HIS.out _).mono ?_; rintro e2 w2 ⟨rfl, rfl⟩)
                        | (go_at_call 69; refine (HIC.out _ HF1.out).mono ?_; rintro e3 w3 ⟨rfl, F3⟩; have b3x := HB1.out.fr F3; have y30 := b3x.k0; have y31 := b3x.k1; have y32 := b3x.k2; have y33 := b3x.k3; have y34 := b3x.k4; have y35 := b3x.k5; have y36 := b3x.k6; have m3 := FBx.fr (heap_alloc_new w1 _) F3; have f30 := m3.k0; have f31 := m3.k1; have f32 := m3.k2; have f33 := m3.k3; have HF3 := hide (HF1.out.trans F3 (fun _ _ e => e)); clear F3 b3x m3)
                        | (go_at_call 70; refine (HRF.out _ HF3.out).mono ?_; rintro e4 w4 ⟨rfl, F4⟩; have HF4 := hide (HF3.out.trans F4 (fun _ _ e => e)); clear F4))
                      go_ret
                      exact ⟨by simp, HF3.out⟩
                    · go_wp2_with (first
                        | (go_at_call 52; refine (HIS.out _).mono ?_; rintro e2 w2 ⟨rfl, rfl⟩)
                        | (go_at_call 69; refine (HIC.out _ HF1.out).mono ?_; rintro e3 w3 ⟨rfl, F3⟩; have b3x := HB1.out.fr F3; have y30 := b3x.k0; have y31 := b3x.k1; have y32 := b3x.k2; have y33 := b3x.k3; have y34 := b3x.k4; have y35 := b3x.k5; have y36 := b3x.k6; have m3 := FBx.fr (heap_alloc_new w1 _) F3; have f30 := m3.k0; have f31 := m3.k1; have f32 := m3.k2; have f33 := m3.k3; have HF3 := hide (HF1.out.trans F3 (fun _ _ e => e)); clear F3 b3x m3)
                        | (go_at_call 70; refine (HRF.out _ HF3.out).mono ?_; rintro e4 w4 ⟨rfl, F4⟩; have HF4 := hide (HF3.out.trans F4 (fun _ _ e => e)); clear F4))
                      go_ret
                      exact ⟨by simp, HF4.out⟩
                  · go_wp2_with (first
                      | (go_at_call 52; refine (HIS.out _).mono ?_; rintro e2 w2 ⟨rfl, rfl⟩)
                      | (go_at_call 69; refine (HIC.out _ HF1.out).mono ?_; rintro e3 w3 ⟨rfl, F3⟩; have b3x := HB1.out.fr F3; have y30 := b3x.k0; have y31 := b3x.k1; have y32 := b3x.k2; have y33 := b3x.k3; have y34 := b3x.k4; have y35 := b3x.k5; have y36 := b3x.k6; have m3 := FBx.fr (heap_alloc_new w1 _) F3; have f30 := m3.k0; have f31 := m3.k1; have f32 := m3.k2; have f33 := m3.k3; have HF3 := hide (HF1.out.trans F3 (fun _ _ e => e)); clear F3 b3x m3)
                      | (go_at_call 70; refine (HRF.out _ HF3.out).mono ?_; rintro e4 w4 ⟨rfl, F4⟩; have HF4 := hide (HF3.out.trans F4 (fun _ _ e => e)); clear F4))
                    go_ret
                    exact ⟨by simp, HF4.out⟩
              · cases hi
                · cases iz
                  · go_wp2_with (first
                      | (go_at_call 52; refine (HIS.out _).mono ?_; rintro e2 w2 ⟨rfl, rfl⟩)
                      | (go_at_call 69; refine (HIC.out _ HF1.out).mono ?_; rintro e3 w3 ⟨rfl, F3⟩; have b3x := HB1.out.fr F3; have y30 := b3x.k0; have y31 := b3x.k1; have y32 := b3x.k2; have y33 := b3x.k3; have y34 := b3x.k4; have y35 := b3x.k5; have y36 := b3x.k6; have m3 := FBx.fr (heap_alloc_new w1 _) F3; have f30 := m3.k0; have f31 := m3.k1; have f32 := m3.k2; have f33 := m3.k3; have HF3 := hide (HF1.out.trans F3 (fun _ _ e => e)); clear F3 b3x m3)
                      | (go_at_call 70; refine (HRF.out _ HF3.out).mono ?_; rintro e4 w4 ⟨rfl, F4⟩; have HF4 := hide (HF3.out.trans F4 (fun _ _ e => e)); clear F4))
                    go_ret
                    exact ⟨by simp, HF3.out⟩
                  · go_wp2_with (first
                      | (go_at_call 52; refine (HIS.out _).mono ?_; rintro e2 w2 ⟨rfl, rfl⟩)
                      | (go_at_call 69; refine (HIC.out _ HF1.out).mono ?_; rintro e3 w3 ⟨rfl, F3⟩; have b3x := HB1.out.fr F3; have y30 := b3x.k0; have y31 := b3x.k1; have y32 := b3x.k2; have y33 := b3x.k3; have y34 := b3x.k4; have y35 := b3x.k5; have y36 := b3x.k6; have m3 := FBx.fr (heap_alloc_new w1 _) F3; have f30 := m3.k0; have f31 := m3.k1; have f32 := m3.k2; have f33 := m3.k3; have HF3 := hide (HF1.out.trans F3 (fun _ _ e => e)); clear F3 b3x m3)
                      | (go_at_call 70; refine (HRF.out _ HF3.out).mono ?_; rintro e4 w4 ⟨rfl, F4⟩; have HF4 := hide (HF3.out.trans F4 (fun _ _ e => e)); clear F4))
                    go_ret
                    exact ⟨by simp, HF4.out⟩
                · go_wp2_with (first
                    | (go_at_call 52; refine (HIS.out _).mono ?_; rintro e2 w2 ⟨rfl, rfl⟩)
                    | (go_at_call 69; refine (HIC.out _ HF1.out).mono ?_; rintro e3 w3 ⟨rfl, F3⟩; have b3x := HB1.out.fr F3; have y30 := b3x.k0; have y31 := b3x.k1; have y32 := b3x.k2; have y33 := b3x.k3; have y34 := b3x.k4; have y35 := b3x.k5; have y36 := b3x.k6; have m3 := FBx.fr (heap_alloc_new w1 _) F3; have f30 := m3.k0; have f31 := m3.k1; have f32 := m3.k2; have f33 := m3.k3; have HF3 := hide (HF1.out.trans F3 (fun _ _ e => e)); clear F3 b3x m3)
                    | (go_at_call 70; refine (HRF.out _ HF3.out).mono ?_; rintro e4 w4 ⟨rfl, F4⟩; have HF4 := hide (HF3.out.trans F4 (fun _ _ e => e)); clear F4))
                  go_ret
                  exact ⟨by simp, HF4.out⟩
      · cases cb
        · go_wp2_with (first
            | (go_at_call 52; refine (HIS.out _).mono ?_; rintro e2 w2 ⟨rfl, rfl⟩)
            | (go_at_call 69; refine (HIC.out _ HF1.out).mono ?_; rintro e3 w3 ⟨rfl, F3⟩; have b3x := HB1.out.fr F3; have y30 := b3x.k0; have y31 := b3x.k1; have y32 := b3x.k2; have y33 := b3x.k3; have y34 := b3x.k4; have y35 := b3x.k5; have y36 := b3x.k6; have m3 := FBx.fr (heap_alloc_new w1 _) F3; have f30 := m3.k0; have f31 := m3.k1; have f32 := m3.k2; have f33 := m3.k3; have HF3 := hide (HF1.out.trans F3 (fun _ _ e => e)); clear F3 b3x m3)
            | (go_at_call 70; refine (HRF.out _ HF3.out).mono ?_; rintro e4 w4 ⟨rfl, F4⟩; have HF4 := hide (HF3.out.trans F4 (fun _ _ e => e)); clear F4))
          go_ret
          exact ⟨by simp, HF3.out⟩
        · cases hm
          · cases lz
            · go_wp2_with (first
                | (go_at_call 52; refine (HIS.out _).mono ?_; rintro e2 w2 ⟨rfl, rfl⟩)
                | (go_at_call 69; refine (HIC.out _ HF1.out).mono ?_; rintro e3 w3 ⟨rfl, F3⟩; have b3x := HB1.out.fr F3; have y30 := b3x.k0; have y31 := b3x.k1; have y32 := b3x.k2; have y33 := b3x.k3; have y34 := b3x.k4; have y35 := b3x.k5; have y36 := b3x.k6; have m3 := FBx.fr (heap_alloc_new w1 _) F3; have f30 := m3.k0; have f31 := m3.k1; have f32 := m3.k2; have f33 := m3.k3; have HF3 := hide (HF1.out.trans F3 (fun _ _ e => e)); clear F3 b3x m3)
                | (go_at_call 70; refine (HRF.out _ HF3.out).mono ?_; rintro e4 w4 ⟨rfl, F4⟩; have HF4 := hide (HF3.out.trans F4 (fun _ _ e => e)); clear F4))
              go_ret
              exact ⟨by simp, HF3.out⟩
            · cases ht
              · cases tz
                · have q1 : ¬ t.toList = [] := fun e => absurd (HTZ.out.2 e) (by decide)
                  have q2 : (t.toList == []) = false := by rw [beq_eq_false_iff_ne]; exact q1
                  go_wp2_with (first
                    | (go_at_call 52; refine (HIS.out _).mono ?_; rintro e2 w2 ⟨rfl, rfl⟩)
                    | (go_at_call 69; refine (HIC.out _ HF1.out).mono ?_; rintro e3 w3 ⟨rfl, F3⟩; have b3x := HB1.out.fr F3; have y30 := b3x.k0; have y31 := b3x.k1; have y32 := b3x.k2; have y33 := b3x.k3; have y34 := b3x.k4; have y35 := b3x.k5; have y36 := b3x.k6; have m3 := FBx.fr (heap_alloc_new w1 _) F3; have f30 := m3.k0; have f31 := m3.k1; have f32 := m3.k2; have f33 := m3.k3; have HF3 := hide (HF1.out.trans F3 (fun _ _ e => e)); clear F3 b3x m3)
                    | (go_at_call 70; refine (HRF.out _ HF3.out).mono ?_; rintro e4 w4 ⟨rfl, F4⟩; have HF4 := hide (HF3.out.trans F4 (fun _ _ e => e)); clear F4))
                  go_ret
                  exact ⟨by simp, HF3.out⟩
                · have q1 : t.toList = [] := HTZ.out.1 rfl
                  have q2 : (t.toList == []) = true := by rw [q1]; rfl
                  cases hi
                  · cases iz
                    · go_wp2_with (first
                        | (go_at_call 52; refine (HIS.out _).mono ?_; rintro e2 w2 ⟨rfl, rfl⟩)
                        | (go_at_call 69; refine (HIC.out _ HF1.out).mono ?_; rintro e3 w3 ⟨rfl, F3⟩; have b3x := HB1.out.fr F3; have y30 := b3x.k0; have y31 := b3x.k1; have y32 := b3x.k2; have y33 := b3x.k3; have y34 := b3x.k4; have y35 := b3x.k5; have y36 := b3x.k6; have m3 := FBx.fr (heap_alloc_new w1 _) F3; have f30 := m3.k0; have f31 := m3.k1; have f32 := m3.k2; have f33 := m3.k3; have HF3 := hide (HF1.out.trans F3 (fun _ _ e => e)); clear F3 b3x m3)
                        | (go_at_call 70; refine (HRF.out _ HF3.out).mono ?_; rintro e4 w4 ⟨rfl, F4⟩; have HF4 := hide (HF3.out.trans F4 (fun _ _ e => e)); clear F4))
                      go_ret
                      exact ⟨by simp, HF3.out⟩
                    · go_wp2_with (first
                        | (go_at_call 52; refine (HIS.out _).mono ?_; rintro e2 w2 ⟨rfl, rfl⟩)
                        | (go_at_call 69; refine (HIC.out _ HF1.out).mono ?_; rintro e3 w3 ⟨rfl, F3⟩; have b3x := HB1.out.fr F3; have y30 := b3x.k0; have y31 := b3x.k1; have y32 := b3x.k2; have y33 := b3x.k3; have y34 := b3x.k4; have y35 := b3x.k5; have y36 := b3x.k6; have m3 := FBx.fr (heap_alloc_new w1 _) F3; have f30 := m3.k0; have f31 := m3.k1; have f32 := m3.k2; have f33 := m3.k3; have HF3 := hide (HF1.out.trans F3 (fun _ _ e => e)); clear F3 b3x m3)
                        | (go_at_call 70; refine (HRF.out _ HF3.out).mono ?_; rintro e4 w4 ⟨rfl, F4⟩; have HF4 := hide (HF3.out.trans F4 (fun _ _ e => e)); clear F4))
                      go_ret
                      exact ⟨by simp, HF4.out⟩
                  · go_wp2_with (first
                      | (go_at_call 52; refine (HIS.out _).mono ?_; rintro e2 w2 ⟨rfl, rfl⟩)
                      | (go_at_call 69; refine (HIC.out _ HF1.out).mono ?_; rintro e3 w3 ⟨rfl, F3⟩; have b3x := HB1.out.fr F3; have y30 := b3x.k0; have y31 := b3x.k1; have y32 := b3x.k2; have y33 := b3x.k3; have y34 := b3x.k4; have y35 := b3x.k5; have y36 := b3x.k6; have m3 := FBx.fr (heap_alloc_new w1 _) F3; have f30 := m3.k0; have f31 := m3.k1; have f32 := m3.k2; have f33 := m3.k3; have HF3 := hide (HF1.out.trans F3 (fun _ _ e => e)); clear F3 b3x m3)
                      | (go_at_call 70; refine (HRF.out _ HF3.out).mono ?_; rintro e4 w4 ⟨rfl, F4⟩; have HF4 := hide (HF3.out.trans F4 (fun _ _ e => e)); clear F4))
                    go_ret
                    exact ⟨by simp, HF4.out⟩
              · cases hi
                · cases iz
                  · go_wp2_with (first
                      | (go_at_call 52; refine (HIS.out _).mono ?_; rintro e2 w2 ⟨rfl, rfl⟩)
                      | (go_at_call 69; refine (HIC.out _ HF1.out).mono ?_; rintro e3 w3 ⟨rfl, F3⟩; have b3x := HB1.out.fr F3; have y30 := b3x.k0; have y31 := b3x.k1; have y32 := b3x.k2; have y33 := b3x.k3; have y34 := b3x.k4; have y35 := b3x.k5; have y36 := b3x.k6; have m3 := FBx.fr (heap_alloc_new w1 _) F3; have f30 := m3.k0; have f31 := m3.k1; have f32 := m3.k2; have f33 := m3.k3; have HF3 := hide (HF1.out.trans F3 (fun _ _ e => e)); clear F3 b3x m3)
                      | (go_at_call 70; refine (HRF.out _ HF3.out).mono ?_; rintro e4 w4 ⟨rfl, F4⟩; have HF4 := hide (HF3.out.trans F4 (fun _ _ e => e)); clear F4))
                    go_ret
                    exact ⟨by simp, HF3.out⟩
                  · go_wp2_with (first
                      | (go_at_call 52; refine (HIS.out _).mono ?_; rintro e2 w2 ⟨rfl, rfl⟩)
                      | (go_at_call 69; refine (HIC.out _ HF1.out).mono ?_; rintro e3 w3 ⟨rfl, F3⟩; have b3x := HB1.out.fr F3; have y30 := b3x.k0; have y31 := b3x.k1; have y32 := b3x.k2; have y33 := b3x.k3; have y34 := b3x.k4; have y35 := b3x.k5; have y36 := b3x.k6; have m3 := FBx.fr (heap_alloc_new w1 _) F3; have f30 := m3.k0; have f31 := m3.k1; have f32 := m3.k2; have f33 := m3.k3; have HF3 := hide (HF1.out.trans F3 (fun _ _ e => e)); clear F3 b3x m3)
                      | (go_at_call 70; refine (HRF.out _ HF3.out).mono ?_; rintro e4 w4 ⟨rfl, F4⟩; have HF4 := hide (HF3.out.trans F4 (fun _ _ e => e)); clear F4))
                    go_ret
                    exact ⟨by simp, HF4.out⟩
                · go_wp2_with (first
                    | (go_at_call 52; refine (HIS.out _).mono ?_; rintro e2 w2 ⟨rfl, rfl⟩)
                    | (go_at_call 69; refine (HIC.out _ HF1.out).mono ?_; rintro e3 w3 ⟨rfl, F3⟩; have b3x := HB1.out.fr F3; have y30 := b3x.k0; have y31 := b3x.k1; have y32 := b3x.k2; have y33 := b3x.k3; have y34 := b3x.k4; have y35 := b3x.k5; have y36 := b3x.k6; have m3 := FBx.fr (heap_alloc_new w1 _) F3; have f30 := m3.k0; have f31 := m3.k1; have f32 := m3.k2; have f33 := m3.k3; have HF3 := hide (HF1.out.trans F3 (fun _ _ e => e)); clear F3 b3x m3)
                    | (go_at_call 70; refine (HRF.out _ HF3.out).mono ?_; rintro e4 w4 ⟨rfl, F4⟩; have HF4 := hide (HF3.out.trans F4 (fun _ _ e => e)); clear F4))
                  go_ret
                  exact ⟨by simp, HF4.out⟩
          · cases ht
            · cases tz
              · have q1 : ¬ t.toList = [] := fun e => absurd (HTZ.out.2 e) (by decide)
                have q2 : (t.toList == []) = false := by rw [beq_eq_false_iff_ne]; exact q1
                go_wp2_with (first
                  | (go_at_call 52; refine (HIS.out _).mono ?_; rintro e2 w2 ⟨rfl, rfl⟩)
                  | (go_at_call 69; refine (HIC.out _ HF1.out).mono ?_; rintro e3 w3 ⟨rfl, F3⟩; have b3x := HB1.out.fr F3; have y30 := b3x.k0; have y31 := b3x.k1; have y32 := b3x.k2; have y33 := b3x.k3; have y34 := b3x.k4; have y35 := b3x.k5; have y36 := b3x.k6; have m3 := FBx.fr (heap_alloc_new w1 _) F3; have f30 := m3.k0; have f31 := m3.k1; have f32 := m3.k2; have f33 := m3.k3; have HF3 := hide (HF1.out.trans F3 (fun _ _ e => e)); clear F3 b3x m3)
                  | (go_at_call 70; refine (HRF.out _ HF3.out).mono ?_; rintro e4 w4 ⟨rfl, F4⟩; have HF4 := hide (HF3.out.trans F4 (fun _ _ e => e)); clear F4))
                go_ret
                exact ⟨by simp, HF3.out⟩
              · have q1 : t.toList = [] := HTZ.out.1 rfl
                have q2 : (t.toList == []) = true := by rw [q1]; rfl
                cases hi
                · cases iz
                  · go_wp2_with (first
                      | (go_at_call 52; refine (HIS.out _).mono ?_; rintro e2 w2 ⟨rfl, rfl⟩)
                      | (go_at_call 69; refine (HIC.out _ HF1.out).mono ?_; rintro e3 w3 ⟨rfl, F3⟩; have b3x := HB1.out.fr F3; have y30 := b3x.k0; have y31 := b3x.k1; have y32 := b3x.k2; have y33 := b3x.k3; have y34 := b3x.k4; have y35 := b3x.k5; have y36 := b3x.k6; have m3 := FBx.fr (heap_alloc_new w1 _) F3; have f30 := m3.k0; have f31 := m3.k1; have f32 := m3.k2; have f33 := m3.k3; have HF3 := hide (HF1.out.trans F3 (fun _ _ e => e)); clear F3 b3x m3)
                      | (go_at_call 70; refine (HRF.out _ HF3.out).mono ?_; rintro e4 w4 ⟨rfl, F4⟩; have HF4 := hide (HF3.out.trans F4 (fun _ _ e => e)); clear F4))
                    go_ret
                    exact ⟨by simp, HF3.out⟩
                  · go_wp2_with (first
                      | (go_at_call 52; refine (HIS.out _).mono ?_; rintro e2 w2 ⟨rfl, rfl⟩)
                      | (go_at_call 69; refine (HIC.out _ HF1.out).mono ?_; rintro e3 w3 ⟨rfl, F3⟩; have b3x := HB1.out.fr F3; have y30 := b3x.k0; have y31 := b3x.k1; have y32 := b3x.k2; have y33 := b3x.k3; have y34 := b3x.k4; have y35 := b3x.k5; have y36 := b3x.k6; have m3 := FBx.fr (heap_alloc_new w1 _) F3; have f30 := m3.k0; have f31 := m3.k1; have f32 := m3.k2; have f33 := m3.k3; have HF3 := hide (HF1.out.trans F3 (fun _ _ e => e)); clear F3 b3x m3)
                      | (go_at_call 70; refine (HRF.out _ HF3.out).mono ?_; rintro e4 w4 ⟨rfl, F4⟩; have HF4 := hide (HF3.out.trans F4 (fun _ _ e => e)); clear F4))
                    go_ret
                    exact ⟨by simp, HF4.out⟩
                · go_wp2_with (first
                    | (go_at_call 52; refine (HIS.out _).mono ?_; rintro e2 w2 ⟨rfl, rfl⟩)
                    | (go_at_call 69; refine (HIC.out _ HF1.out).mono ?_; rintro e3 w3 ⟨rfl, F3⟩; have b3x := HB1.out.fr F3; have y30 := b3x.k0; have y31 := b3x.k1; have y32 := b3x.k2; have y33 := b3x.k3; have y34 := b3x.k4; have y35 := b3x.k5; have y36 := b3x.k6; have m3 := FBx.fr (heap_alloc_new w1 _) F3; have f30 := m3.k0; have f31 := m3.k1; have f32 := m3.k2; have f33 := m3.k3; have HF3 := hide (HF1.out.trans F3 (fun _ _ e => e)); clear F3 b3x m3)
                    | (go_at_call 70; refine (HRF.out _ HF3.out).mono ?_; rintro e4 w4 ⟨rfl, F4⟩; have HF4 := hide (HF3.out.trans F4 (fun _ _ e => e)); clear F4))
                  go_ret
                  exact ⟨by simp, HF4.out⟩
            · cases hi
              · cases iz
                · go_wp2_with (first
                    | (go_at_call 52; refine (HIS.out _).mono ?_; rintro e2 w2 ⟨rfl, rfl⟩)
                    | (go_at_call 69; refine (HIC.out _ HF1.out).mono ?_; rintro e3 w3 ⟨rfl, F3⟩; have b3x := HB1.out.fr F3; have y30 := b3x.k0; have y31 := b3x.k1; have y32 := b3x.k2; have y33 := b3x.k3; have y34 := b3x.k4; have y35 := b3x.k5; have y36 := b3x.k6; have m3 := FBx.fr (heap_alloc_new w1 _) F3; have f30 := m3.k0; have f31 := m3.k1; have f32 := m3.k2; have f33 := m3.k3; have HF3 := hide (HF1.out.trans F3 (fun _ _ e => e)); clear F3 b3x m3)
                    | (go_at_call 70; refine (HRF.out _ HF3.out).mono ?_; rintro e4 w4 ⟨rfl, F4⟩; have HF4 := hide (HF3.out.trans F4 (fun _ _ e => e)); clear F4))
                  go_ret
                  exact ⟨by simp, HF3.out⟩
                · go_wp2_with (first
                    | (go_at_call 52; refine (HIS.out _).mono ?_; rintro e2 w2 ⟨rfl, rfl⟩)
                    | (go_at_call 69; refine (HIC.out _ HF1.out).mono ?_; rintro e3 w3 ⟨rfl, F3⟩; have b3x := HB1.out.fr F3; have y30 := b3x.k0; have y31 := b3x.k1; have y32 := b3x.k2; have y33 := b3x.k3; have y34 := b3x.k4; have y35 := b3x.k5; have y36 := b3x.k6; have m3 := FBx.fr (heap_alloc_new w1 _) F3; have f30 := m3.k0; have f31 := m3.k1; have f32 := m3.k2; have f33 := m3.k3; have HF3 := hide (HF1.out.trans F3 (fun _ _ e => e)); clear F3 b3x m3)
                    | (go_at_call 70; refine (HRF.out _ HF3.out).mono ?_; rintro e4 w4 ⟨rfl, F4⟩; have HF4 := hide (HF3.out.trans F4 (fun _ _ e => e)); clear F4))
                  go_ret
                  exact ⟨by simp, HF4.out⟩
              · go_wp2_with (first
                  | (go_at_call 52; refine (HIS.out _).mono ?_; rintro e2 w2 ⟨rfl, rfl⟩)
                  | (go_at_call 69; refine (HIC.out _ HF1.out).mono ?_; rintro e3 w3 ⟨rfl, F3⟩; have b3x := HB1.out.fr F3; have y30 := b3x.k0; have y31 := b3x.k1; have y32 := b3x.k2; have y33 := b3x.k3; have y34 := b3x.k4; have y35 := b3x.k5; have y36 := b3x.k6; have m3 := FBx.fr (heap_alloc_new w1 _) F3; have f30 := m3.k0; have f31 := m3.k1; have f32 := m3.k2; have f33 := m3.k3; have HF3 := hide (HF1.out.trans F3 (fun _ _ e => e)); clear F3 b3x m3)
                  | (go_at_call 70; refine (HRF.out _ HF3.out).mono ?_; rintro e4 w4 ⟨rfl, F4⟩; have HF4 := hide (HF3.out.trans F4 (fun _ _ e => e)); clear F4))
                go_ret
                exact ⟨by simp, HF4.out⟩

end Go.Proofs.Ytilcigjhogcjkaa
