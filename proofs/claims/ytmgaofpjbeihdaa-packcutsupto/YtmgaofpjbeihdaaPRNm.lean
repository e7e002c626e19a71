/-
  What is proved here: the reader's num and instruction (package pack).
-/
import Derived.Test.YtmgaofpjbeihdaaPRRow
namespace Go.Proofs.Ytmgaofpjbeihdaa
open Go Go.RowKit

theorem rdFlag_len {l m : List Nat} {b : Bool} (h : rdFlag l = some (b, m)) : m.length < l.length ∧ m <:+ l := by
  match l, h with
  | x :: l, h =>
    simp only [rdFlag] at h
    split at h
    · cases h
      exact ⟨by simp, List.suffix_cons _ _⟩
    · cases h
theorem rdCnt_len {k : Nat} {l m : List Nat} {n : Nat} (h : rdCnt k l = some (n, m)) : m.length < l.length ∧ n ≤ m.length / k ∧ m <:+ l := by
  unfold rdCnt at h
  split at h
  · cases h
  · rename_i hn
    split at h
    · rename_i hq
      cases h
      exact ⟨rdNum_len hn, hq, (rdG_suf _ _ _ _ _ _ hn).2.1⟩
    · cases h
/-- A number's sign and limbs. -/
def rdMag (l : List Nat) : Option ((Bool × List Nat) × List Nat) := match rdFlag l with
  | none => none
  | some (b, l1) => match rdCnt 1 l1 with
    | none => none
    | some (n, l2) => match rdRow rdLimb n l2 with
      | none => none
      | some (xs, m) => some ((b, xs), m)
def okM (w0 : World) (rb p B : Nat) (x : (Bool × List Nat) × List Nat) (e : Ending) (w' : World) : Prop := ∃ v, e = .returned (.agg #[.bool x.1.1, v]) ∧ RowU w' B v x.1.2 ∧ RS w0 w' rb x.2 p
theorem RowU.fr {w w' : World} {B rb : Nat} {v : Value} {xs : List Nat} (h : RowU w B v xs) (F : Fr (fun j => j = rb) w w') (hB : rb < B) : RowU w' B v xs := by
  rcases h with h | ⟨g, h1, h2, h3⟩
  · exact .inl h
  · exact .inr ⟨g, h1, h2, h3.fr F (by omega)⟩
theorem RowU.shape {w : World} {B : Nat} {v : Value} {xs : List Nat} (h : RowU w B v xs) : ∃ ao, v = .slice ao xs.length xs.length := by
  rcases h with ⟨rfl, rfl⟩ | ⟨g, -, rfl, -⟩
  · exact ⟨none, rfl⟩
  · exact ⟨_, rfl⟩
theorem RowU.le {w : World} {B B' : Nat} {v : Value} {xs : List Nat} (h : RowU w B v xs) (hB : B' ≤ B) : RowU w B' v xs := by
  rcases h with h | ⟨g, h1, h2, h3⟩
  · exact .inl h
  · exact .inr ⟨g, by omega, h2, h3⟩
theorem RS.lt {w0 w : World} {rb p : Nat} {l : List Nat} (h : RS w0 w rb l p) : rb < w.heap.size := by
  obtain ⟨-, -, v, -, hR⟩ := h
  exact hR.lt
/-- A variable of two cells. -/
def B2 (w : World) (b : Nat) (c0 c1 : Value) : Prop := w.heap[b]? = some (.cells #[c0, c1] 62 (0, 0))
theorem B2.k0 {w : World} {b : Nat} {c0 c1 : Value} (h : B2 w b c0 c1) : w.cell? ⟨b, 0, none⟩ = some c0 := by rw [cell_of_row w b 0 _ _ _ h]; rfl
theorem B2.k1 {w : World} {b : Nat} {c0 c1 : Value} (h : B2 w b c0 c1) : w.cell? ⟨b, 1, none⟩ = some c1 := by rw [cell_of_row w b 1 _ _ _ h]; rfl
theorem B2.fz {w : World} {b : Nat} {c0 c1 : Value} (h : B2 w b c0 c1) (i : Nat) : w.frozen? ⟨b, i, none⟩ = false := frozen_of_row _ _ _ _ _ h
theorem B2.fr {w w' : World} {b rb : Nat} {c0 c1 : Value} (h : B2 w b c0 c1) (F : Fr (fun j => j = rb) w w') (hn : b ≠ rb) : B2 w' b c0 c1 := (F.block b (Array.getElem?_eq_some_iff.1 h).1 hn).trans h
theorem B2.s0 {w : World} {b : Nat} {c0 c1 : Value} (h : B2 w b c0 c1) (x : Value) : B2 (w.setCell ⟨b, 0, none⟩ x) b x c1 := (heap_setCell_same w b 0 _ _ x h).trans rfl
theorem B2.s1 {w : World} {b : Nat} {c0 c1 : Value} (h : B2 w b c0 c1) (x : Value) : B2 (w.setCell ⟨b, 1, none⟩ x) b c0 x := (heap_setCell_same w b 1 _ _ x h).trans rfl
theorem B2.so {w : World} {b g i : Nat} {c0 c1 x : Value} (h : B2 w b c0 c1) (hg : b ≠ g) : B2 (w.setCell ⟨g, i, none⟩ x) b c0 c1 := (heap_setCell_other _ _ _ _ hg).trans h
theorem RowU.so {w : World} {B g i : Nat} {v x : Value} {xs : List Nat} (h : RowU w B v xs) (hg : g < B) : RowU (w.setCell ⟨g, i, none⟩ x) B v xs := by
  rcases h with h | ⟨k, h1, h2, cur, h3, h4⟩
  · exact .inl h
  · exact .inr ⟨k, h1, h2, cur, (heap_setCell_other _ _ _ _ (by show k ≠ g; omega)).trans h3, h4⟩

set_option maxRecDepth 20000 in
set_option maxHeartbeats 2000000 in
theorem rdmag_any (w0 w : World) (rb p : Nat) (l : List Nat) (h : RS w0 w rb l p) (h8 : By8 l) (hl : l.length ≤ 100000000) :
    Calls Try.prog 82 #[.pointer (some ⟨rb, 0, none⟩)] w fun e w' => RQ w rb (okM w0 rb p w.heap.size) (rdMag l) e w' := by
  have hmf : ∀ (fn : Fn) (first cap : Array Value) (w : World), (Instr.makeFunc fn first cap).run Try.prog w = .ok (.func fn first cap) w := fun _ _ _ _ => rfl
  have hrb := h.lt
  have hA := h.mono ((up_alloc w (.cells #[.bool false, .slice none 0 0] 62)).tr (up_alloc _ (.cells #[.bool false, .slice none 0 0] 62)))
  have hB : B2 ((w.alloc (.cells #[.bool false, .slice none 0 0] 62)).alloc (.cells #[.bool false, .slice none 0 0] 62)) (w.heap.size + 1) (.bool false) (.slice none 0 0) := by
    have := heap_alloc_new (w.alloc (.cells #[.bool false, .slice none 0 0] 62)) (.cells #[.bool false, .slice none 0 0] 62)
    rw [World.size_alloc] at this
    exact this
  have hC : B2 ((w.alloc (.cells #[.bool false, .slice none 0 0] 62)).alloc (.cells #[.bool false, .slice none 0 0] 62)) w.heap.size (.bool false) (.slice none 0 0) := (heap_alloc_old _ _ (by simp)).trans (heap_alloc_new w _)
  have hF0 : Fr (fun j => j = rb) w ((w.alloc (.cells #[.bool false, .slice none 0 0] 62)).alloc (.cells #[.bool false, .slice none 0 0] 62)) := ((Fr.refl _ w).alloc _).alloc _
  have hsz : ((w.alloc (.cells #[.bool false, .slice none 0 0] 62)).alloc (.cells #[.bool false, .slice none 0 0] 62)).heap.size = w.heap.size + 2 := by simp
  obtain ⟨W0, hW0⟩ : ∃ W0, W0 = (w.alloc (.cells #[.bool false, .slice none 0 0] 62)).alloc (.cells #[.bool false, .slice none 0 0] 62) := ⟨_, rfl⟩
  rw [← hW0] at hA hB hC hF0 hsz
  have HW := hide hW0
  cases h1 : rdFlag l with
  | none =>
    have K1 := hide ((rdflag_any w0 W0 rb p l hA).mono (fun _ _ q => q.no h1))
    have HO : Hid (rdMag l = none) := by unfold Hid rdMag; rw [h1]
    have HF0 := hide hF0
    clear h hA hB hC hF0 h1 hW0 h8 hl
    go_enter Try.func82, Try.ntmps82
    go_wp2_with fail
    rw [← HW.out]
    go_wp2_with (go_at_call 62; refine K1.out.mono ?_; rintro e1 w1 ⟨rfl, F1⟩; have HF1 := hide (HF0.out.trans F1 (fun _ _ e => e)); clear F1)
    exact ⟨rfl, RQ.mkno HO.out HF1.out⟩
  | some x =>
    obtain ⟨b, l1⟩ := x
    obtain ⟨hl1, hs1⟩ := rdFlag_len h1
    have h81 := h8.suf hs1
    have K1 := hide ((rdflag_any w0 W0 rb p l hA).mono (fun _ _ q => q.yes h1))
    have HB := hide hB
    have HC := hide hC
    have HF0 := hide hF0
    cases h2 : rdCnt 1 l1 with
    | none =>
      have K2 := hide (fun (W : World) (hr : RS w0 W rb l1 p) => (rdcnt_any w0 W rb p 1 l1 hr h81 (by decide) (by decide)).mono (fun _ _ q => q.no h2))
      have HO : Hid (rdMag l = none) := by unfold Hid rdMag; rw [h1]; simp only; rw [h2]
      clear h hA hB hC hF0 h1 h2 hW0 h8 h81 hl hl1 hs1
      go_enter Try.func82, Try.ntmps82
      go_wp2_with fail
      rw [← HW.out]
      go_wp2_with (first
        | (go_at_call 62; refine K1.out.mono ?_; rintro e1 w1 ⟨⟨rfl, hr1⟩, F1⟩; have b1 := HB.out.fr F1 (by omega); have c1 := HC.out.fr F1 (by omega); have f1 := b1.fz 0; have y1 := b1.k0; have HB1 := hide (b1.s0 (.bool b)); have HC1 := hide (c1.so (g := w.heap.size + 1) (i := 0) (x := .bool b) (by omega)); have HR1 := hide (hr1.setO (g := w.heap.size + 1) (i := 0) (u := .bool b) (by omega)); have HF1 : Hid (Fr (fun j => j = rb) w (w1.setCell ⟨w.heap.size + 1, 0, none⟩ (.bool b))) := ((HF0.out.trans F1 (fun _ _ e => e)).setCell (fun e => by omega) _ _); clear F1 hr1 b1 c1)
        | (go_at_call 49; refine (K2.out _ HR1.out).mono ?_; rintro e2 w2 ⟨rfl, F2⟩; have HF2 := hide (HF1.out.trans F2 (fun _ _ e => e)); clear F2))
      exact ⟨rfl, RQ.mkno HO.out HF2.out⟩
    | some y =>
      obtain ⟨n, l2⟩ := y
      obtain ⟨hl2, hn2, hs2⟩ := rdCnt_len h2
      rw [Nat.div_one] at hn2
      have h82 := h81.suf hs2
      have K2 := hide (fun (W : World) (hr : RS w0 W rb l1 p) => (rdcnt_any w0 W rb p 1 l1 hr h81 (by decide) (by decide)).mono (fun _ _ q => q.yes h2))
      cases h3 : rdRow rdLimb n l2 with
      | none =>
        have K3 := hide (fun (W : World) (hr : RS w0 W rb l2 p) => (rowU_any w0 W rb p n l2 hr h82 (by omega)).mono (fun _ _ q => q.no h3))
        have HO : Hid (rdMag l = none) := by unfold Hid rdMag; rw [h1]; simp only; rw [h2]; simp only; rw [h3]
        clear h hA hB hC hF0 h1 h2 h3 hW0 h8 h81 h82 hl hl1 hl2 hn2 hs1 hs2
        go_enter Try.func82, Try.ntmps82
        go_wp2_with fail
        rw [← HW.out]
        go_wp2_with (first
          | (go_at_call 62; refine K1.out.mono ?_; rintro e1 w1 ⟨⟨rfl, hr1⟩, F1⟩; have b1 := HB.out.fr F1 (by omega); have c1 := HC.out.fr F1 (by omega); have f1 := b1.fz 0; have y1 := b1.k0; have HB1 := hide (b1.s0 (.bool b)); have HC1 := hide (c1.so (g := w.heap.size + 1) (i := 0) (x := .bool b) (by omega)); have HR1 := hide (hr1.setO (g := w.heap.size + 1) (i := 0) (u := .bool b) (by omega)); have HF1 : Hid (Fr (fun j => j = rb) w (w1.setCell ⟨w.heap.size + 1, 0, none⟩ (.bool b))) := ((HF0.out.trans F1 (fun _ _ e => e)).setCell (fun e => by omega) _ _); clear F1 hr1 b1 c1)
          | (go_at_call 49; refine (K2.out _ HR1.out).mono ?_; rintro e2 w2 ⟨⟨rfl, hr2⟩, F2⟩; have HB2 := hide (HB1.out.fr F2 (by omega)); have HC2 := hide (HC1.out.fr F2 (by omega)); have HR2 := hide hr2; have HF2 := hide (HF1.out.trans F2 (fun _ _ e => e)); clear F2 hr2)
          | (go_at_call 87; refine (K3.out _ HR2.out).mono ?_; rintro e3 w3 ⟨rfl, F3⟩; have HF3 := hide (HF2.out.trans F3 (fun _ _ e => e)); clear F3))
        exact ⟨rfl, RQ.mkno HO.out HF3.out⟩
      | some z =>
        obtain ⟨xs, m⟩ := z
        have K3 := hide (fun (W : World) (hr : RS w0 W rb l2 p) => (rowU_any w0 W rb p n l2 hr h82 (by omega)).mono (fun _ _ q => q.yes h3))
        have HO : Hid (rdMag l = some ((b, xs), m)) := by unfold Hid rdMag; rw [h1]; simp only; rw [h2]; simp only; rw [h3]
        have HSZ2 : ∀ (W : World), B2 W (w.heap.size + 1) (.bool b) (.slice none 0 0) → Fr (fun j => j = rb) w W → w.heap.size + 2 ≤ W.heap.size := fun W h _ => (Array.getElem?_eq_some_iff.1 h).1
        clear h hA hB hC hF0 h1 h2 h3 hW0 h8 h81 h82 hl hl1 hl2 hn2 hs1 hs2
        go_enter Try.func82, Try.ntmps82
        go_wp2_with fail
        rw [← HW.out]
        go_wp2_with (first
          | (go_at_call 62; refine K1.out.mono ?_; rintro e1 w1 ⟨⟨rfl, hr1⟩, F1⟩; have b1 := HB.out.fr F1 (by omega); have c1 := HC.out.fr F1 (by omega); have f1 := b1.fz 0; have y1 := b1.k0; have HB1 := hide (b1.s0 (.bool b)); have HC1 := hide (c1.so (g := w.heap.size + 1) (i := 0) (x := .bool b) (by omega)); have HR1 := hide (hr1.setO (g := w.heap.size + 1) (i := 0) (u := .bool b) (by omega)); have HF1 : Hid (Fr (fun j => j = rb) w (w1.setCell ⟨w.heap.size + 1, 0, none⟩ (.bool b))) := ((HF0.out.trans F1 (fun _ _ e => e)).setCell (fun e => by omega) _ _); clear F1 hr1 b1 c1)
          | (go_at_call 49; refine (K2.out _ HR1.out).mono ?_; rintro e2 w2 ⟨⟨rfl, hr2⟩, F2⟩; have HB2 := hide (HB1.out.fr F2 (by omega)); have HC2 := hide (HC1.out.fr F2 (by omega)); have HR2 := hide hr2; have HF2 := hide (HF1.out.trans F2 (fun _ _ e => e)); clear F2 hr2)
          | (go_at_call 87; refine (K3.out _ HR2.out).mono ?_; rintro e3 w3 ⟨⟨v3, rfl, hv3, hr3⟩, F3⟩; obtain ⟨ao3, rfl⟩ := hv3.shape; have b3 := HB2.out.fr F3 (by omega); have c3 := HC2.out.fr F3 (by omega); have f3 := b3.fz 1; have y3 := b3.k1; have S3 := b3.s1 (.slice ao3 xs.length xs.length); have k30 := S3.k0; have k31 := S3.k1; have C3 := c3.so (g := w.heap.size + 1) (i := 1) (x := .slice ao3 xs.length xs.length) (by omega); have q30 := C3.fz 0; have q31 := C3.fz 1; have q32 := C3.k0; have q33 := C3.k1; have D3 := C3.s0 (.bool b); have q34 := D3.fz 1; have q35 := D3.k1; have E3 := D3.s1 (.slice ao3 xs.length xs.length); have e30 := E3.k0; have e31 := E3.k1; have HV3 := hide hv3; have HR3 := hide hr3; have HSZ3 : Hid (w.heap.size + 2 ≤ w2.heap.size) := (by have := HF2.out.size; have := HB2.out; exact HSZ2 _ HB2.out HF2.out); have HF3 := hide (HF2.out.trans F3 (fun _ _ e => e)); clear F3 hr3 hv3 b3 c3 S3 C3 D3 E3))
        refine bodyPost_ret (by simp [results, Try.results82, go_sem, e30, e31]; rfl) rfl ?_
        have hsz3 := HSZ3.out
        refine RQ.mk' HO.out (((HF3.out.setCell (fun e => by omega) _ _).setCell (fun e => by omega) _ _).setCell (fun e => by omega) _ _) ⟨_, rfl, ((((HV3.out.so (by omega)).so (by omega)).so (by omega)).le (by omega)), ((HR3.out.setO (by omega)).setO (by omega)).setO (by omega)⟩

end Go.Proofs.Ytmgaofpjbeihdaa
