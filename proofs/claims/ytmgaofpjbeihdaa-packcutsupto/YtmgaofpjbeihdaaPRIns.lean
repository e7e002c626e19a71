/-
  What is proved here: the reader's instruction, and rows of instructions (package pack).
-/
import Derived.Test.YtmgaofpjbeihdaaPRNm
namespace Go.Proofs.Ytmgaofpjbeihdaa
open Go Go.RowKit

theorem rdSgn_suf {l m : List Nat} {v : Int} (h : rdSgn l = some (v, m)) : m.length < l.length ∧ m <:+ l := by
  unfold rdSgn at h
  split at h
  · cases h
  · rename_i hn
    cases h
    exact ⟨rdNum_len hn, (rdG_suf _ _ _ _ _ _ hn).2.1⟩
def rdIns (l : List Nat) : Option ((Int × Int × Int) × List Nat) := match rdNum l with
  | none => none
  | some (n, l1) => match rdSgn l1 with
    | none => none
    | some (a, l2) => match rdSgn l2 with
      | none => none
      | some (b, m) => some (((n : Int), a, b), m)
theorem rdIns_suf {l m : List Nat} {x : Int × Int × Int} (h : rdIns l = some (x, m)) : m.length < l.length ∧ m <:+ l := by
  unfold rdIns at h
  split at h
  · cases h
  · rename_i h1
    split at h
    · cases h
    · rename_i h2
      split at h
      · cases h
      · rename_i h3
        cases h
        have a1 := rdG_suf _ _ _ _ _ _ h1
        have a2 := rdSgn_suf h2
        have a3 := rdSgn_suf h3
        exact ⟨by omega, a3.2.trans (a2.2.trans a1.2.1)⟩
theorem rdIns_by8 {l m : List Nat} {x : Int × Int × Int} (h : rdIns l = some (x, m)) (h8 : By8 l) : By8 m := h8.suf (rdIns_suf h).2
/-- A variable of three cells. -/
def B3 (w : World) (b : Nat) (c0 c1 c2 : Value) : Prop := w.heap[b]? = some (.cells #[c0, c1, c2] 50 (0, 0))
theorem B3.k0 {w : World} {b : Nat} {c0 c1 c2 : Value} (h : B3 w b c0 c1 c2) : w.cell? ⟨b, 0, none⟩ = some c0 := by rw [cell_of_row w b 0 _ _ _ h]; rfl
theorem B3.s0 {w : World} {b : Nat} {c0 c1 c2 : Value} (h : B3 w b c0 c1 c2) (x : Value) : B3 (w.setCell ⟨b, 0, none⟩ x) b x c1 c2 := (heap_setCell_same w b 0 _ _ x h).trans rfl
theorem B3.k1 {w : World} {b : Nat} {c0 c1 c2 : Value} (h : B3 w b c0 c1 c2) : w.cell? ⟨b, 1, none⟩ = some c1 := by rw [cell_of_row w b 1 _ _ _ h]; rfl
theorem B3.s1 {w : World} {b : Nat} {c0 c1 c2 : Value} (h : B3 w b c0 c1 c2) (x : Value) : B3 (w.setCell ⟨b, 1, none⟩ x) b c0 x c2 := (heap_setCell_same w b 1 _ _ x h).trans rfl
theorem B3.k2 {w : World} {b : Nat} {c0 c1 c2 : Value} (h : B3 w b c0 c1 c2) : w.cell? ⟨b, 2, none⟩ = some c2 := by rw [cell_of_row w b 2 _ _ _ h]; rfl
theorem B3.s2 {w : World} {b : Nat} {c0 c1 c2 : Value} (h : B3 w b c0 c1 c2) (x : Value) : B3 (w.setCell ⟨b, 2, none⟩ x) b c0 c1 x := (heap_setCell_same w b 2 _ _ x h).trans rfl
theorem B3.fz {w : World} {b : Nat} {c0 c1 c2 : Value} (h : B3 w b c0 c1 c2) (i : Nat) : w.frozen? ⟨b, i, none⟩ = false := frozen_of_row _ _ _ _ _ h
theorem B3.fr {w w' : World} {b rb : Nat} {c0 c1 c2 : Value} (h : B3 w b c0 c1 c2) (F : Fr (fun j => j = rb) w w') (hn : b ≠ rb) : B3 w' b c0 c1 c2 := (F.block b (Array.getElem?_eq_some_iff.1 h).1 hn).trans h
theorem B3.so {w : World} {b g i : Nat} {c0 c1 c2 x : Value} (h : B3 w b c0 c1 c2) (hg : b ≠ g) : B3 (w.setCell ⟨g, i, none⟩ x) b c0 c1 c2 := (heap_setCell_other _ _ _ _ hg).trans h
def okI (w0 : World) (rb p : Nat) (x : (Int × Int × Int) × List Nat) (e : Ending) (w' : World) : Prop := e = .returned (.agg #[.int .i64 x.1.1, .int .i64 x.1.2.1, .int .i64 x.1.2.2]) ∧ RS w0 w' rb x.2 p

set_option maxRecDepth 20000 in
set_option maxHeartbeats 2000000 in
theorem rdins_any (w0 w : World) (rb p : Nat) (l : List Nat) (h : RS w0 w rb l p) (h8 : By8 l) :
    Calls Try.prog 64 #[.pointer (some ⟨rb, 0, none⟩)] w fun e w' => RQ w rb (okI w0 rb p) (rdIns l) e w' := by
  have hrb := h.lt
  have hA := h.mono ((up_alloc w (.cells #[.int .i64 0, .int .i64 0, .int .i64 0] 50)).tr (up_alloc _ (.cells #[.int .i64 0, .int .i64 0, .int .i64 0] 50)))
  have hB : B3 ((w.alloc (.cells #[.int .i64 0, .int .i64 0, .int .i64 0] 50)).alloc (.cells #[.int .i64 0, .int .i64 0, .int .i64 0] 50)) (w.heap.size + 1) (.int .i64 0) (.int .i64 0) (.int .i64 0) := by
    have := heap_alloc_new (w.alloc (.cells #[.int .i64 0, .int .i64 0, .int .i64 0] 50)) (.cells #[.int .i64 0, .int .i64 0, .int .i64 0] 50)
    rw [World.size_alloc] at this
    exact this
  have hC : B3 ((w.alloc (.cells #[.int .i64 0, .int .i64 0, .int .i64 0] 50)).alloc (.cells #[.int .i64 0, .int .i64 0, .int .i64 0] 50)) w.heap.size (.int .i64 0) (.int .i64 0) (.int .i64 0) := (heap_alloc_old _ _ (by simp)).trans (heap_alloc_new w _)
  have hF0 : Fr (fun j => j = rb) w ((w.alloc (.cells #[.int .i64 0, .int .i64 0, .int .i64 0] 50)).alloc (.cells #[.int .i64 0, .int .i64 0, .int .i64 0] 50)) := ((Fr.refl _ w).alloc _).alloc _
  obtain ⟨W0, hW0⟩ : ∃ W0, W0 = (w.alloc (.cells #[.int .i64 0, .int .i64 0, .int .i64 0] 50)).alloc (.cells #[.int .i64 0, .int .i64 0, .int .i64 0] 50) := ⟨_, rfl⟩
  rw [← hW0] at hA hB hC hF0
  have HW := hide hW0
  have HB := hide hB
  have HC := hide hC
  have HF0 := hide hF0
  have HR0 := hide hA
  have h80 := h8
  cases h1 : rdNum l with
  | none =>
    have K1 := hide (fun (W : World) (hr : RS w0 W rb l p) => (rdnum_any w0 W rb p l hr h80).mono (fun _ _ q => q.no h1))
    have HO : Hid (rdIns l = none) := by unfold Hid rdIns; rw [h1]
    clear h hA hB hC hF0 h1 hW0 h8 h80
    go_enter Try.func64, Try.ntmps64
    go_wp2_with fail
    rw [← HW.out]
    go_wp2_with (first
      | (go_at_call 60; refine (K1.out _ HR0.out).mono ?_; rintro e1 w1 ⟨rfl, F1⟩; have HF1 := hide (HF0.out.trans F1 (fun _ _ e => e)); clear F1))
    exact ⟨rfl, RQ.mkno HO.out HF1.out⟩
  | some x1 =>
    obtain ⟨n, l1⟩ := x1
    have K1 := hide (fun (W : World) (hr : RS w0 W rb l p) => (rdnum_any w0 W rb p l hr h80).mono (fun _ _ q => q.yes h1))
    have h81 := h80.suf (rdG_suf _ _ _ _ _ _ h1).2.1
    cases h2 : rdSgn l1 with
    | none =>
      have K2 := hide (fun (W : World) (hr : RS w0 W rb l1 p) => (rdsgn_any w0 W rb p l1 hr h81).mono (fun _ _ q => q.no h2))
      have HO : Hid (rdIns l = none) := by unfold Hid rdIns; rw [h1]; simp only; rw [h2]
      clear h hA hB hC hF0 h1 h2 hW0 h8 h80 h81
      go_enter Try.func64, Try.ntmps64
      go_wp2_with fail
      rw [← HW.out]
      go_wp2_with (first
        | (go_at_call 73; refine (K2.out _ HR1.out).mono ?_; rintro e2 w2 ⟨rfl, F2⟩; have HF2 := hide (HF1.out.trans F2 (fun _ _ e => e)); clear F2)
        | (go_at_call 60; refine (K1.out _ HR0.out).mono ?_; rintro e1 w1 ⟨⟨rfl, hr1⟩, F1⟩; have b1 := HB.out.fr F1 (by omega); have c1 := HC.out.fr F1 (by omega); have f1 := b1.fz 0; have y1 := b1.k0; have S1 := b1.s0 (.int .i64 (n : Int)); have D1 := c1.so (g := w.heap.size + 1) (i := 0) (x := .int .i64 (n : Int)) (by omega); have HB1 := hide S1; have HC1 := hide D1; have HR1 := hide (hr1.setO (g := w.heap.size + 1) (i := 0) (u := .int .i64 (n : Int)) (by omega)); have HF1 : Hid (Fr (fun j => j = rb) w (w1.setCell ⟨w.heap.size + 1, 0, none⟩ (.int .i64 (n : Int)))) := ((HF0.out.trans F1 (fun _ _ e => e)).setCell (fun e => by omega) _ _); clear F1 hr1 b1 c1 S1 D1))
      exact ⟨rfl, RQ.mkno HO.out HF2.out⟩
    | some x2 =>
      obtain ⟨a, l2⟩ := x2
      have K2 := hide (fun (W : World) (hr : RS w0 W rb l1 p) => (rdsgn_any w0 W rb p l1 hr h81).mono (fun _ _ q => q.yes h2))
      have h82 := h81.suf (rdSgn_suf h2).2
      cases h3 : rdSgn l2 with
      | none =>
        have K3 := hide (fun (W : World) (hr : RS w0 W rb l2 p) => (rdsgn_any w0 W rb p l2 hr h82).mono (fun _ _ q => q.no h3))
        have HO : Hid (rdIns l = none) := by unfold Hid rdIns; rw [h1]; simp only; rw [h2]; simp only; rw [h3]
        clear h hA hB hC hF0 h1 h2 h3 hW0 h8 h80 h81 h82
        go_enter Try.func64, Try.ntmps64
        go_wp2_with fail
        rw [← HW.out]
        go_wp2_with (first
          | (have hx := HR2; clear hx; go_at_call 73; refine (K3.out _ HR2.out).mono ?_; rintro e3 w3 ⟨rfl, F3⟩; have HF3 := hide (HF2.out.trans F3 (fun _ _ e => e)); clear F3)
          | (go_at_call 73; refine (K2.out _ HR1.out).mono ?_; rintro e2 w2 ⟨⟨rfl, hr2⟩, F2⟩; have b2 := HB1.out.fr F2 (by omega); have c2 := HC1.out.fr F2 (by omega); have f2 := b2.fz 1; have y2 := b2.k1; have S2 := b2.s1 (.int .i64 a); have D2 := c2.so (g := w.heap.size + 1) (i := 1) (x := .int .i64 a) (by omega); have HB2 := hide S2; have HC2 := hide D2; have HR2 := hide (hr2.setO (g := w.heap.size + 1) (i := 1) (u := .int .i64 a) (by omega)); have HF2 : Hid (Fr (fun j => j = rb) w (w2.setCell ⟨w.heap.size + 1, 1, none⟩ (.int .i64 a))) := ((HF1.out.trans F2 (fun _ _ e => e)).setCell (fun e => by omega) _ _); clear F2 hr2 b2 c2 S2 D2)
          | (go_at_call 60; refine (K1.out _ HR0.out).mono ?_; rintro e1 w1 ⟨⟨rfl, hr1⟩, F1⟩; have b1 := HB.out.fr F1 (by omega); have c1 := HC.out.fr F1 (by omega); have f1 := b1.fz 0; have y1 := b1.k0; have S1 := b1.s0 (.int .i64 (n : Int)); have D1 := c1.so (g := w.heap.size + 1) (i := 0) (x := .int .i64 (n : Int)) (by omega); have HB1 := hide S1; have HC1 := hide D1; have HR1 := hide (hr1.setO (g := w.heap.size + 1) (i := 0) (u := .int .i64 (n : Int)) (by omega)); have HF1 : Hid (Fr (fun j => j = rb) w (w1.setCell ⟨w.heap.size + 1, 0, none⟩ (.int .i64 (n : Int)))) := ((HF0.out.trans F1 (fun _ _ e => e)).setCell (fun e => by omega) _ _); clear F1 hr1 b1 c1 S1 D1))
        exact ⟨rfl, RQ.mkno HO.out HF3.out⟩
      | some x3 =>
        obtain ⟨b, m⟩ := x3
        have K3 := hide (fun (W : World) (hr : RS w0 W rb l2 p) => (rdsgn_any w0 W rb p l2 hr h82).mono (fun _ _ q => q.yes h3))
        have h83 := h82.suf (rdSgn_suf h3).2
        have HO : Hid (rdIns l = some (((n : Int), a, b), m)) := by unfold Hid rdIns; rw [h1]; simp only; rw [h2]; simp only; rw [h3]
        clear h hA hB hC hF0 h1 h2 h3 hW0 h8 h80 h81 h82 h83
        go_enter Try.func64, Try.ntmps64
        go_wp2_with fail
        rw [← HW.out]
        go_wp2_with (first
          | (have hx := HR2; clear hx; go_at_call 73; refine (K3.out _ HR2.out).mono ?_; rintro e3 w3 ⟨⟨rfl, hr3⟩, F3⟩; have b3 := HB2.out.fr F3 (by omega); have c3 := HC2.out.fr F3 (by omega); have f3 := b3.fz 2; have y3 := b3.k2; have S3 := b3.s2 (.int .i64 b); have D3 := c3.so (g := w.heap.size + 1) (i := 2) (x := .int .i64 b) (by omega); have HB3 := hide S3; have HC3 := hide D3; have HR3 := hide (hr3.setO (g := w.heap.size + 1) (i := 2) (u := .int .i64 b) (by omega)); have HF3 : Hid (Fr (fun j => j = rb) w (w3.setCell ⟨w.heap.size + 1, 2, none⟩ (.int .i64 b))) := ((HF2.out.trans F3 (fun _ _ e => e)).setCell (fun e => by omega) _ _); have k0 := S3.k0; have k1 := S3.k1; have k2 := S3.k2; have q0 := D3.fz 0; have u0 := D3.k0; have E0 := D3.s0 (.int .i64 (n : Int)); have q1 := E0.fz 1; have u1 := E0.k1; have E1 := E0.s1 (.int .i64 a); have q2 := E1.fz 2; have u2 := E1.k2; have E2 := E1.s2 (.int .i64 b); have r0 := E2.k0; have r1 := E2.k1; have r2 := E2.k2; clear E0 E1 E2; clear F3 hr3 b3 c3 S3 D3)
          | (go_at_call 73; refine (K2.out _ HR1.out).mono ?_; rintro e2 w2 ⟨⟨rfl, hr2⟩, F2⟩; have b2 := HB1.out.fr F2 (by omega); have c2 := HC1.out.fr F2 (by omega); have f2 := b2.fz 1; have y2 := b2.k1; have S2 := b2.s1 (.int .i64 a); have D2 := c2.so (g := w.heap.size + 1) (i := 1) (x := .int .i64 a) (by omega); have HB2 := hide S2; have HC2 := hide D2; have HR2 := hide (hr2.setO (g := w.heap.size + 1) (i := 1) (u := .int .i64 a) (by omega)); have HF2 : Hid (Fr (fun j => j = rb) w (w2.setCell ⟨w.heap.size + 1, 1, none⟩ (.int .i64 a))) := ((HF1.out.trans F2 (fun _ _ e => e)).setCell (fun e => by omega) _ _); clear F2 hr2 b2 c2 S2 D2)
          | (go_at_call 60; refine (K1.out _ HR0.out).mono ?_; rintro e1 w1 ⟨⟨rfl, hr1⟩, F1⟩; have b1 := HB.out.fr F1 (by omega); have c1 := HC.out.fr F1 (by omega); have f1 := b1.fz 0; have y1 := b1.k0; have S1 := b1.s0 (.int .i64 (n : Int)); have D1 := c1.so (g := w.heap.size + 1) (i := 0) (x := .int .i64 (n : Int)) (by omega); have HB1 := hide S1; have HC1 := hide D1; have HR1 := hide (hr1.setO (g := w.heap.size + 1) (i := 0) (u := .int .i64 (n : Int)) (by omega)); have HF1 : Hid (Fr (fun j => j = rb) w (w1.setCell ⟨w.heap.size + 1, 0, none⟩ (.int .i64 (n : Int)))) := ((HF0.out.trans F1 (fun _ _ e => e)).setCell (fun e => by omega) _ _); clear F1 hr1 b1 c1 S1 D1))
        refine bodyPost_ret (by simp [results, Try.results64, go_sem, r0, r1, r2]; rfl) rfl ?_
        exact RQ.mk' HO.out (((HF3.out.setCell (fun e => by omega) _ _).setCell (fun e => by omega) _ _).setCell (fun e => by omega) _ _) ⟨rfl, ((HR3.out.setO (by omega)).setO (by omega)).setO (by omega)⟩

end Go.Proofs.Ytmgaofpjbeihdaa
