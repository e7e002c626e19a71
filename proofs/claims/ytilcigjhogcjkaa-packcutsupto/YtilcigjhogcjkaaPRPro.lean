/-
  What is proved here: the reader's proto (package pack).
-/
import Derived.Test.YtilcigjhogcjkaaPRDall
import Derived.Test.YtilcigjhogcjkaaPKCopyC
namespace Go.Proofs.Ytilcigjhogcjkaa
open Go Go.RowKit

def rdPro (h : Nat) (l : List Nat) (p : Nat) : Option (PC h × List Nat × Nat) := match rdTxt l with
  | none => none
  | some (nm, l1) => match rdNum l1 with
    | none => none
    | some (ar, l2) => match rdFlag l2 with
      | none => none
      | some (rs, l3) => match rdNum l3 with
        | none => none
        | some (fr, l4) => match rdCnt 3 l4 with
          | none => none
          | some (n, l5) => match rdRow rdIns n l5 with
            | none => none
            | some (cd, l6) => match rdDta (rdDat h 100) l6 p with
              | none => none
              | some (ks, l7, q) => match rdCnt 1 l7 with
                | none => none
                | some (n2, l8) => match rdRow rdTxt n2 l8 with
                  | none => none
                  | some (ns, l9) => some (⟨nm, (ar : Int), (fr : Int), rs, cd, ks, ns⟩, l9, q)
theorem rdRow_suf {α : Type} {f : List Nat → Option (α × List Nat)} (hf : ∀ l x m, f l = some (x, m) → m <:+ l) : ∀ (n : Nat) (l : List Nat) (xs : List α) (m : List Nat), rdRow f n l = some (xs, m) → m <:+ l
  | 0, l, xs, m, h => by
    rw [rdRow_zero] at h
    cases h
    exact List.suffix_refl _
  | n + 1, l, xs, m, h => by
    simp only [rdRow] at h
    split at h
    · cases h
    · rename_i h1
      split at h
      · cases h
      · rename_i h2
        cases h
        exact (rdRow_suf hf n _ _ _ h2).trans (hf _ _ _ h1)
theorem RowI.code {w : World} {B : Nat} {v : Value} {xs : List (Int × Int × Int)} (h : RowI w B v xs) (hn : xs.length ≤ 100000000) : ∃ co, v = .slice co xs.length xs.length ∧ CodeL w co xs.length xs ∧ AQ (fun b => B ≤ b) co xs.length := by
  rcases h with ⟨rfl, rfl⟩ | ⟨g, h1, rfl, cur, h2, h3, h4⟩
  · exact ⟨none, rfl, ⟨Nat.le_refl _, by decide, .inl rfl⟩, .inl rfl⟩
  · refine ⟨_, rfl, ⟨Nat.le_refl _, by omega, .inr ⟨g, 0, rfl, fun j hj => ?_⟩⟩, .inr ⟨_, rfl, h1⟩⟩
    obtain ⟨g0, g1, g2⟩ := cI_get xs j hj
    have hlen := cI_len xs
    have key : ∀ k u, (cI xs)[k]? = some u → w.cell? ⟨g, 0 + k, none⟩ = some u := fun k u hk => by
      rw [cell_of_row w g _ cur _ _ h2, ← Array.getElem?_toList, Nat.zero_add]
      rw [← h4, List.getElem?_take] at hk
      split at hk
      · exact hk
      · cases hk
    exact ⟨key _ _ g0, key _ _ g1, key _ _ g2⟩
theorem RowX.names {w : World} {B : Nat} {v : Value} {xs : List ByteArray} (h : RowX w B v xs) (hn : xs.length ≤ 100000000) : ∃ na, v = .slice na xs.length xs.length ∧ NameL w na xs.length xs ∧ AQ (fun b => B ≤ b) na xs.length := by
  rcases h with ⟨rfl, rfl⟩ | ⟨g, h1, rfl, cur, h2, h3, h4⟩
  · exact ⟨none, rfl, ⟨Nat.le_refl _, by decide, .inl rfl⟩, .inl rfl⟩
  · refine ⟨_, rfl, ⟨Nat.le_refl _, by omega, .inr ⟨g, 0, rfl, fun j hj => ?_⟩⟩, .inr ⟨_, rfl, h1⟩⟩
    rw [cell_of_row w g _ cur _ _ h2, ← Array.getElem?_toList, Nat.zero_add]
    have := congrArg (fun l : List Value => l[j]?) h4
    simp only [List.getElem?_take, List.length_map] at this
    rw [if_pos hj] at this
    rw [this]
    simp [hj]
def okP {h : Nat} (w0 : World) (rb B : Nat) (x : PC h × List Nat × Nat) (e : Ending) (w' : World) : Prop := ∃ co cc ka kc na nc, e = .returned (.agg #[.string x.1.nm, .int .i64 x.1.args, .int .i64 x.1.free, .bool x.1.rest, .slice co x.1.code.length cc, .slice ka x.1.ks.length kc, .slice na x.1.ns.length nc]) ∧ PQ (fun b => B ≤ b) w' x.1 [.string x.1.nm, .int .i64 x.1.args, .int .i64 x.1.free, .bool x.1.rest, .slice co x.1.code.length cc, .slice ka x.1.ks.length kc, .slice na x.1.ns.length nc] ∧ RS w0 w' rb x.2.1 x.2.2
theorem PBx.frr {w w' : World} {B rb : Nat} {c0 c1 c2 c3 c4 c5 c6 : Value} (h : PBx w B c0 c1 c2 c3 c4 c5 c6) (F : Fr (fun j => j = rb) w w') (hn : B ≠ rb) : PBx w' B c0 c1 c2 c3 c4 c5 c6 := (F.block B (Array.getElem?_eq_some_iff.1 h).1 hn).trans h
theorem PBx.fz {w : World} {B : Nat} {c0 c1 c2 c3 c4 c5 c6 : Value} (h : PBx w B c0 c1 c2 c3 c4 c5 c6) (i : Nat) : w.frozen? ⟨B, i, none⟩ = false := frozen_of_row _ _ _ _ _ h
theorem PBx.oo {w : World} {B g i : Nat} {c0 c1 c2 c3 c4 c5 c6 x : Value} (h : PBx w B c0 c1 c2 c3 c4 c5 c6) (hn : B ≠ g) : PBx (w.setCell ⟨g, i, none⟩ x) B c0 c1 c2 c3 c4 c5 c6 := (heap_setCell_other _ _ _ _ hn).trans h
theorem PBx.s0 {w : World} {B : Nat} {c0 c1 c2 c3 c4 c5 c6 : Value} (h : PBx w B c0 c1 c2 c3 c4 c5 c6) (x : Value) : PBx (w.setCell ⟨B, 0, none⟩ x) B x c1 c2 c3 c4 c5 c6 := (heap_setCell_same w B 0 _ _ x h).trans rfl
theorem PBx.s1 {w : World} {B : Nat} {c0 c1 c2 c3 c4 c5 c6 : Value} (h : PBx w B c0 c1 c2 c3 c4 c5 c6) (x : Value) : PBx (w.setCell ⟨B, 1, none⟩ x) B c0 x c2 c3 c4 c5 c6 := (heap_setCell_same w B 1 _ _ x h).trans rfl
theorem PBx.s2 {w : World} {B : Nat} {c0 c1 c2 c3 c4 c5 c6 : Value} (h : PBx w B c0 c1 c2 c3 c4 c5 c6) (x : Value) : PBx (w.setCell ⟨B, 2, none⟩ x) B c0 c1 x c3 c4 c5 c6 := (heap_setCell_same w B 2 _ _ x h).trans rfl
theorem PBx.s3 {w : World} {B : Nat} {c0 c1 c2 c3 c4 c5 c6 : Value} (h : PBx w B c0 c1 c2 c3 c4 c5 c6) (x : Value) : PBx (w.setCell ⟨B, 3, none⟩ x) B c0 c1 c2 x c4 c5 c6 := (heap_setCell_same w B 3 _ _ x h).trans rfl

set_option maxRecDepth 20000 in
set_option maxHeartbeats 4000000 in
theorem proto_any {h : Nat} (hN : 100 ≤ h) (w0 w : World) (rb p : Nat) (l : List Nat) (hr : RS w0 w rb l p) (h8 : By8 l) (hl : l.length ≤ 100000000) (hp : p ≤ 20000) :
    Calls Try.prog 50 #[.pointer (some ⟨rb, 0, none⟩)] w fun e w' => RQ w rb (okP (h := h) w0 rb w.heap.size) (rdPro h l p) e w' := by
  obtain ⟨out, hout⟩ : ∃ o, o = rdPro h l p := ⟨_, rfl⟩
  rw [← hout]
  have hmf : ∀ (fn : Fn) (first cap : Array Value) (w : World), (Instr.makeFunc fn first cap).run Try.prog w = .ok (.func fn first cap) w := fun _ _ _ _ => rfl
  have hrb := hr.lt
  obtain ⟨w0', hW0⟩ : ∃ W, W = (w.alloc (.cells #[.string ⟨#[]⟩, .int .i64 0, .int .i64 0, .bool false, .slice none 0 0, .slice none 0 0, .slice none 0 0] 48)).alloc (.cells #[.string ⟨#[]⟩, .int .i64 0, .int .i64 0, .bool false, .slice none 0 0, .slice none 0 0, .slice none 0 0] 48) := ⟨_, rfl⟩
  have hB : PBx w0' (w.heap.size + 1) (.string ⟨#[]⟩) (.int .i64 0) (.int .i64 0) (.bool false) (.slice none 0 0) (.slice none 0 0) (.slice none 0 0) := by
    rw [hW0]
    have := heap_alloc_new (w.alloc (.cells #[.string ⟨#[]⟩, .int .i64 0, .int .i64 0, .bool false, .slice none 0 0, .slice none 0 0, .slice none 0 0] 48)) (.cells #[.string ⟨#[]⟩, .int .i64 0, .int .i64 0, .bool false, .slice none 0 0, .slice none 0 0, .slice none 0 0] 48)
    rw [World.size_alloc] at this
    exact this
  have hC : PBx w0' w.heap.size (.string ⟨#[]⟩) (.int .i64 0) (.int .i64 0) (.bool false) (.slice none 0 0) (.slice none 0 0) (.slice none 0 0) := by rw [hW0]; exact (heap_alloc_old _ _ (by simp)).trans (heap_alloc_new w _)
  have hF0 : Fr (fun j => j = rb) w w0' := by rw [hW0]; exact ((Fr.refl _ w).alloc _).alloc _
  have HA0 : Hid (RS w0 w0' rb l p) := by unfold Hid; rw [hW0]; exact hr.mono ((up_alloc w _).tr (up_alloc _ _))
  have HW := hide hW0
  have HE0 := hide hB
  have HG0 := hide hC
  have HF0 := hide hF0
  clear hB hC hF0
  have h8l := h8
  cases hx1 : rdTxt l with
  | none =>
    have K1 := hide (fun (W : World) (h' : RS w0 W rb l p) => (rdtxt_any w0 W rb p l h' h8l).mono (fun _ _ q => q.no hx1))
    have HO : Hid (out = none) := by unfold Hid; rw [hout]; unfold rdPro; simp only [hx1]
    clear hr hout hW0 h8 hx1 h8l
    go_enter Try.func50, Try.ntmps50
    go_wp2_with fail
    rw [← HW.out]
    go_wp2_with (first
      | (go_at_call 61; refine (K1.out _ HA0.out).mono ?_; rintro e1 w1 ⟨rfl, F1⟩; have HF1 := hide (HF0.out.trans F1 (fun _ _ e => e)); clear F1))
    exact ⟨rfl, RQ.mkno HO.out HF1.out⟩
  | some y1 =>
    obtain ⟨nm, l1⟩ := y1
    have hsf1 := rdTxt_suf hx1
    have h8l1 := h8l.suf hsf1
    have hln1 := hsf1.length_le
    have K1 := hide (fun (W : World) (h' : RS w0 W rb l p) => (rdtxt_any w0 W rb p l h' h8l).mono (fun _ _ q => q.yes hx1))
    cases hx2 : rdNum l1 with
    | none =>
      have K2 := hide (fun (W : World) (h' : RS w0 W rb l1 p) => (rdnum_any w0 W rb p l1 h' h8l1).mono (fun _ _ q => q.no hx2))
      have HO : Hid (out = none) := by unfold Hid; rw [hout]; unfold rdPro; simp only [hx1, hx2]
      clear hr hout hW0 h8 hx1 hx2 h8l h8l1
      go_enter Try.func50, Try.ntmps50
      go_wp2_with fail
      rw [← HW.out]
      go_wp2_with (first
        | (go_at_call 60; refine (K2.out _ HA1.out).mono ?_; rintro e2 w2 ⟨rfl, F2⟩; have HF2 := hide (HF1.out.trans F2 (fun _ _ e => e)); clear F2)
        | (go_at_call 61; refine (K1.out _ HA0.out).mono ?_; rintro e1 w1 ⟨⟨rfl, hr1⟩, F1⟩; have d5 := HE0.out.frr F1 (by omega); have d4 := HG0.out.frr F1 (by omega); have f5 := HF0.out.trans F1 (fun _ _ e => e); have lt5 := HE0.out.lt; have fz1 := d5.fz 0; have ky1 := d5.k0; have e5 := d5.s0 (.string nm); have HE1 := hide e5; have HG1 := hide (d4.oo (g := w.heap.size + 1) (i := 0) (x := .string nm) (by omega)); have HA1 := hide (hr1.setO (g := w.heap.size + 1) (i := 0) (u := .string nm) (by omega)); have HF1 : Hid (Fr (fun j => j = rb) w (w1.setCell ⟨w.heap.size + 1, 0, none⟩ (.string nm))) := (f5.setCell (fun e => by omega) _ _); clear F1 hr1 d5 d4 f5 lt5 e5))
      exact ⟨rfl, RQ.mkno HO.out HF2.out⟩
    | some y2 =>
      obtain ⟨ar, l2⟩ := y2
      have hsf2 := (rdG_suf _ _ _ _ _ _ hx2).2.1
      have h8l2 := h8l1.suf hsf2
      have hln2 := hsf2.length_le
      have K2 := hide (fun (W : World) (h' : RS w0 W rb l1 p) => (rdnum_any w0 W rb p l1 h' h8l1).mono (fun _ _ q => q.yes hx2))
      cases hx3 : rdFlag l2 with
      | none =>
        have K3 := hide (fun (W : World) (h' : RS w0 W rb l2 p) => (rdflag_any w0 W rb p l2 h').mono (fun _ _ q => q.no hx3))
        have HO : Hid (out = none) := by unfold Hid; rw [hout]; unfold rdPro; simp only [hx1, hx2, hx3]
        clear hr hout hW0 h8 hx1 hx2 hx3 h8l h8l1 h8l2
        go_enter Try.func50, Try.ntmps50
        go_wp2_with fail
        rw [← HW.out]
        go_wp2_with (first
          | (go_at_call 62; refine (K3.out _ HA2.out).mono ?_; rintro e3 w3 ⟨rfl, F3⟩; have HF3 := hide (HF2.out.trans F3 (fun _ _ e => e)); clear F3)
          | (go_at_call 60; refine (K2.out _ HA1.out).mono ?_; rintro e2 w2 ⟨⟨rfl, hr2⟩, F2⟩; have d5 := HE1.out.frr F2 (by omega); have d4 := HG1.out.frr F2 (by omega); have f5 := HF1.out.trans F2 (fun _ _ e => e); have lt5 := HE1.out.lt; have fz2 := d5.fz 1; have ky2 := d5.k1; have e5 := d5.s1 (.int .i64 (ar : Int)); have HE2 := hide e5; have HG2 := hide (d4.oo (g := w.heap.size + 1) (i := 1) (x := .int .i64 (ar : Int)) (by omega)); have HA2 := hide (hr2.setO (g := w.heap.size + 1) (i := 1) (u := .int .i64 (ar : Int)) (by omega)); have HF2 : Hid (Fr (fun j => j = rb) w (w2.setCell ⟨w.heap.size + 1, 1, none⟩ (.int .i64 (ar : Int)))) := (f5.setCell (fun e => by omega) _ _); clear F2 hr2 d5 d4 f5 lt5 e5)
          | (go_at_call 61; refine (K1.out _ HA0.out).mono ?_; rintro e1 w1 ⟨⟨rfl, hr1⟩, F1⟩; have d5 := HE0.out.frr F1 (by omega); have d4 := HG0.out.frr F1 (by omega); have f5 := HF0.out.trans F1 (fun _ _ e => e); have lt5 := HE0.out.lt; have fz1 := d5.fz 0; have ky1 := d5.k0; have e5 := d5.s0 (.string nm); have HE1 := hide e5; have HG1 := hide (d4.oo (g := w.heap.size + 1) (i := 0) (x := .string nm) (by omega)); have HA1 := hide (hr1.setO (g := w.heap.size + 1) (i := 0) (u := .string nm) (by omega)); have HF1 : Hid (Fr (fun j => j = rb) w (w1.setCell ⟨w.heap.size + 1, 0, none⟩ (.string nm))) := (f5.setCell (fun e => by omega) _ _); clear F1 hr1 d5 d4 f5 lt5 e5))
        exact ⟨rfl, RQ.mkno HO.out HF3.out⟩
      | some y3 =>
        obtain ⟨rs, l3⟩ := y3
        have hsf3 := (rdFlag_len hx3).2
        have h8l3 := h8l2.suf hsf3
        have hln3 := hsf3.length_le
        have K3 := hide (fun (W : World) (h' : RS w0 W rb l2 p) => (rdflag_any w0 W rb p l2 h').mono (fun _ _ q => q.yes hx3))
        cases hx4 : rdNum l3 with
        | none =>
          have K4 := hide (fun (W : World) (h' : RS w0 W rb l3 p) => (rdnum_any w0 W rb p l3 h' h8l3).mono (fun _ _ q => q.no hx4))
          have HO : Hid (out = none) := by unfold Hid; rw [hout]; unfold rdPro; simp only [hx1, hx2, hx3, hx4]
          clear hr hout hW0 h8 hx1 hx2 hx3 hx4 h8l h8l1 h8l2 h8l3
          go_enter Try.func50, Try.ntmps50
          go_wp2_with fail
          rw [← HW.out]
          go_wp2_with (first
            | (have hx := HA3; clear hx; go_at_call 60; refine (K4.out _ HA3.out).mono ?_; rintro e4 w4 ⟨rfl, F4⟩; have HF4 := hide (HF3.out.trans F4 (fun _ _ e => e)); clear F4)
            | (go_at_call 62; refine (K3.out _ HA2.out).mono ?_; rintro e3 w3 ⟨⟨rfl, hr3⟩, F3⟩; have d5 := HE2.out.frr F3 (by omega); have d4 := HG2.out.frr F3 (by omega); have f5 := HF2.out.trans F3 (fun _ _ e => e); have lt5 := HE2.out.lt; have fz3 := d5.fz 3; have ky3 := d5.k3; have e5 := d5.s3 (.bool rs); have HE3 := hide e5; have HG3 := hide (d4.oo (g := w.heap.size + 1) (i := 3) (x := .bool rs) (by omega)); have HA3 := hide (hr3.setO (g := w.heap.size + 1) (i := 3) (u := .bool rs) (by omega)); have HF3 : Hid (Fr (fun j => j = rb) w (w3.setCell ⟨w.heap.size + 1, 3, none⟩ (.bool rs))) := (f5.setCell (fun e => by omega) _ _); clear F3 hr3 d5 d4 f5 lt5 e5)
            | (go_at_call 60; refine (K2.out _ HA1.out).mono ?_; rintro e2 w2 ⟨⟨rfl, hr2⟩, F2⟩; have d5 := HE1.out.frr F2 (by omega); have d4 := HG1.out.frr F2 (by omega); have f5 := HF1.out.trans F2 (fun _ _ e => e); have lt5 := HE1.out.lt; have fz2 := d5.fz 1; have ky2 := d5.k1; have e5 := d5.s1 (.int .i64 (ar : Int)); have HE2 := hide e5; have HG2 := hide (d4.oo (g := w.heap.size + 1) (i := 1) (x := .int .i64 (ar : Int)) (by omega)); have HA2 := hide (hr2.setO (g := w.heap.size + 1) (i := 1) (u := .int .i64 (ar : Int)) (by omega)); have HF2 : Hid (Fr (fun j => j = rb) w (w2.setCell ⟨w.heap.size + 1, 1, none⟩ (.int .i64 (ar : Int)))) := (f5.setCell (fun e => by omega) _ _); clear F2 hr2 d5 d4 f5 lt5 e5)
            | (go_at_call 61; refine (K1.out _ HA0.out).mono ?_; rintro e1 w1 ⟨⟨rfl, hr1⟩, F1⟩; have d5 := HE0.out.frr F1 (by omega); have d4 := HG0.out.frr F1 (by omega); have f5 := HF0.out.trans F1 (fun _ _ e => e); have lt5 := HE0.out.lt; have fz1 := d5.fz 0; have ky1 := d5.k0; have e5 := d5.s0 (.string nm); have HE1 := hide e5; have HG1 := hide (d4.oo (g := w.heap.size + 1) (i := 0) (x := .string nm) (by omega)); have HA1 := hide (hr1.setO (g := w.heap.size + 1) (i := 0) (u := .string nm) (by omega)); have HF1 : Hid (Fr (fun j => j = rb) w (w1.setCell ⟨w.heap.size + 1, 0, none⟩ (.string nm))) := (f5.setCell (fun e => by omega) _ _); clear F1 hr1 d5 d4 f5 lt5 e5))
          exact ⟨rfl, RQ.mkno HO.out HF4.out⟩
        | some y4 =>
          obtain ⟨fr, l4⟩ := y4
          have hsf4 := (rdG_suf _ _ _ _ _ _ hx4).2.1
          have h8l4 := h8l3.suf hsf4
          have hln4 := hsf4.length_le
          have K4 := hide (fun (W : World) (h' : RS w0 W rb l3 p) => (rdnum_any w0 W rb p l3 h' h8l3).mono (fun _ _ q => q.yes hx4))
          cases hx5 : rdCnt 3 l4 with
          | none =>
            have K5 := hide (fun (W : World) (h' : RS w0 W rb l4 p) => (rdcnt_any w0 W rb p 3 l4 h' h8l4 (by decide) (by decide)).mono (fun _ _ q => q.no hx5))
            have HO : Hid (out = none) := by unfold Hid; rw [hout]; unfold rdPro; simp only [hx1, hx2, hx3, hx4, hx5]
            clear hr hout hW0 h8 hx1 hx2 hx3 hx4 hx5 h8l h8l1 h8l2 h8l3 h8l4
            go_enter Try.func50, Try.ntmps50
            go_wp2_with fail
            rw [← HW.out]
            go_wp2_with (first
              | (go_at_call 49; refine (K5.out _ HA4.out).mono ?_; rintro e5 w5 ⟨rfl, F5⟩; have HF5 := hide (HF4.out.trans F5 (fun _ _ e => e)); clear F5)
              | (have hx := HA3; clear hx; go_at_call 60; refine (K4.out _ HA3.out).mono ?_; rintro e4 w4 ⟨⟨rfl, hr4⟩, F4⟩; have d5 := HE3.out.frr F4 (by omega); have d4 := HG3.out.frr F4 (by omega); have f5 := HF3.out.trans F4 (fun _ _ e => e); have lt5 := HE3.out.lt; have fz4 := d5.fz 2; have ky4 := d5.k2; have e5 := d5.s2 (.int .i64 (fr : Int)); have HE4 := hide e5; have HG4 := hide (d4.oo (g := w.heap.size + 1) (i := 2) (x := .int .i64 (fr : Int)) (by omega)); have HA4 := hide (hr4.setO (g := w.heap.size + 1) (i := 2) (u := .int .i64 (fr : Int)) (by omega)); have HF4 : Hid (Fr (fun j => j = rb) w (w4.setCell ⟨w.heap.size + 1, 2, none⟩ (.int .i64 (fr : Int)))) := (f5.setCell (fun e => by omega) _ _); clear F4 hr4 d5 d4 f5 lt5 e5)
              | (go_at_call 62; refine (K3.out _ HA2.out).mono ?_; rintro e3 w3 ⟨⟨rfl, hr3⟩, F3⟩; have d5 := HE2.out.frr F3 (by omega); have d4 := HG2.out.frr F3 (by omega); have f5 := HF2.out.trans F3 (fun _ _ e => e); have lt5 := HE2.out.lt; have fz3 := d5.fz 3; have ky3 := d5.k3; have e5 := d5.s3 (.bool rs); have HE3 := hide e5; have HG3 := hide (d4.oo (g := w.heap.size + 1) (i := 3) (x := .bool rs) (by omega)); have HA3 := hide (hr3.setO (g := w.heap.size + 1) (i := 3) (u := .bool rs) (by omega)); have HF3 : Hid (Fr (fun j => j = rb) w (w3.setCell ⟨w.heap.size + 1, 3, none⟩ (.bool rs))) := (f5.setCell (fun e => by omega) _ _); clear F3 hr3 d5 d4 f5 lt5 e5)
              | (go_at_call 60; refine (K2.out _ HA1.out).mono ?_; rintro e2 w2 ⟨⟨rfl, hr2⟩, F2⟩; have d5 := HE1.out.frr F2 (by omega); have d4 := HG1.out.frr F2 (by omega); have f5 := HF1.out.trans F2 (fun _ _ e => e); have lt5 := HE1.out.lt; have fz2 := d5.fz 1; have ky2 := d5.k1; have e5 := d5.s1 (.int .i64 (ar : Int)); have HE2 := hide e5; have HG2 := hide (d4.oo (g := w.heap.size + 1) (i := 1) (x := .int .i64 (ar : Int)) (by omega)); have HA2 := hide (hr2.setO (g := w.heap.size + 1) (i := 1) (u := .int .i64 (ar : Int)) (by omega)); have HF2 : Hid (Fr (fun j => j = rb) w (w2.setCell ⟨w.heap.size + 1, 1, none⟩ (.int .i64 (ar : Int)))) := (f5.setCell (fun e => by omega) _ _); clear F2 hr2 d5 d4 f5 lt5 e5)
              | (go_at_call 61; refine (K1.out _ HA0.out).mono ?_; rintro e1 w1 ⟨⟨rfl, hr1⟩, F1⟩; have d5 := HE0.out.frr F1 (by omega); have d4 := HG0.out.frr F1 (by omega); have f5 := HF0.out.trans F1 (fun _ _ e => e); have lt5 := HE0.out.lt; have fz1 := d5.fz 0; have ky1 := d5.k0; have e5 := d5.s0 (.string nm); have HE1 := hide e5; have HG1 := hide (d4.oo (g := w.heap.size + 1) (i := 0) (x := .string nm) (by omega)); have HA1 := hide (hr1.setO (g := w.heap.size + 1) (i := 0) (u := .string nm) (by omega)); have HF1 : Hid (Fr (fun j => j = rb) w (w1.setCell ⟨w.heap.size + 1, 0, none⟩ (.string nm))) := (f5.setCell (fun e => by omega) _ _); clear F1 hr1 d5 d4 f5 lt5 e5))
            exact ⟨rfl, RQ.mkno HO.out HF5.out⟩
          | some y5 =>
            obtain ⟨n, l5⟩ := y5
            have hsf5 := (rdCnt_len hx5).2.2
            have h8l5 := h8l4.suf hsf5
            have hln5 := hsf5.length_le
            have hcn5 := (rdCnt_len hx5).2.1
            have hcd5 := Nat.div_le_self l5.length 3
            have K5 := hide (fun (W : World) (h' : RS w0 W rb l4 p) => (rdcnt_any w0 W rb p 3 l4 h' h8l4 (by decide) (by decide)).mono (fun _ _ q => q.yes hx5))
            cases hx6 : rdRow rdIns n l5 with
            | none =>
              have K6 := hide (fun (W : World) (h' : RS w0 W rb l5 p) => (rowI_any w0 W rb p n l5 h' h8l5 (by omega)).mono (fun _ _ q => q.no hx6))
              have HO : Hid (out = none) := by unfold Hid; rw [hout]; unfold rdPro; simp only [hx1, hx2, hx3, hx4, hx5, hx6]
              clear hr hout hW0 h8 hx1 hx2 hx3 hx4 hx5 hx6 h8l h8l1 h8l2 h8l3 h8l4 h8l5
              go_enter Try.func50, Try.ntmps50
              go_wp2_with fail
              rw [← HW.out]
              go_wp2_with (first
                | (go_at_call 63; refine (K6.out _ HA5.out).mono ?_; rintro e6 w6 ⟨rfl, F6⟩; have HF6 := hide (HF5.out.trans F6 (fun _ _ e => e)); clear F6)
                | (go_at_call 49; refine (K5.out _ HA4.out).mono ?_; rintro e5 w5 ⟨⟨rfl, hr5⟩, F5⟩; have d5 := HE4.out.frr F5 (by omega); have d4 := HG4.out.frr F5 (by omega); have f5 := HF4.out.trans F5 (fun _ _ e => e); have lt5 := HE4.out.lt; have HE5 := hide d5; have HG5 := hide d4; have HA5 := hide hr5; have HF5 := hide f5; clear F5 hr5 d5 d4 f5 lt5)
                | (have hx := HA3; clear hx; go_at_call 60; refine (K4.out _ HA3.out).mono ?_; rintro e4 w4 ⟨⟨rfl, hr4⟩, F4⟩; have d5 := HE3.out.frr F4 (by omega); have d4 := HG3.out.frr F4 (by omega); have f5 := HF3.out.trans F4 (fun _ _ e => e); have lt5 := HE3.out.lt; have fz4 := d5.fz 2; have ky4 := d5.k2; have e5 := d5.s2 (.int .i64 (fr : Int)); have HE4 := hide e5; have HG4 := hide (d4.oo (g := w.heap.size + 1) (i := 2) (x := .int .i64 (fr : Int)) (by omega)); have HA4 := hide (hr4.setO (g := w.heap.size + 1) (i := 2) (u := .int .i64 (fr : Int)) (by omega)); have HF4 : Hid (Fr (fun j => j = rb) w (w4.setCell ⟨w.heap.size + 1, 2, none⟩ (.int .i64 (fr : Int)))) := (f5.setCell (fun e => by omega) _ _); clear F4 hr4 d5 d4 f5 lt5 e5)
                | (go_at_call 62; refine (K3.out _ HA2.out).mono ?_; rintro e3 w3 ⟨⟨rfl, hr3⟩, F3⟩; have d5 := HE2.out.frr F3 (by omega); have d4 := HG2.out.frr F3 (by omega); have f5 := HF2.out.trans F3 (fun _ _ e => e); have lt5 := HE2.out.lt; have fz3 := d5.fz 3; have ky3 := d5.k3; have e5 := d5.s3 (.bool rs); have HE3 := hide e5; have HG3 := hide (d4.oo (g := w.heap.size + 1) (i := 3) (x := .bool rs) (by omega)); have HA3 := hide (hr3.setO (g := w.heap.size + 1) (i := 3) (u := .bool rs) (by omega)); have HF3 : Hid (Fr (fun j => j = rb) w (w3.setCell ⟨w.heap.size + 1, 3, none⟩ (.bool rs))) := (f5.setCell (fun e => by omega) _ _); clear F3 hr3 d5 d4 f5 lt5 e5)
                | (go_at_call 60; refine (K2.out _ HA1.out).mono ?_; rintro e2 w2 ⟨⟨rfl, hr2⟩, F2⟩; have d5 := HE1.out.frr F2 (by omega); have d4 := HG1.out.frr F2 (by omega); have f5 := HF1.out.trans F2 (fun _ _ e => e); have lt5 := HE1.out.lt; have fz2 := d5.fz 1; have ky2 := d5.k1; have e5 := d5.s1 (.int .i64 (ar : Int)); have HE2 := hide e5; have HG2 := hide (d4.oo (g := w.heap.size + 1) (i := 1) (x := .int .i64 (ar : Int)) (by omega)); have HA2 := hide (hr2.setO (g := w.heap.size + 1) (i := 1) (u := .int .i64 (ar : Int)) (by omega)); have HF2 : Hid (Fr (fun j => j = rb) w (w2.setCell ⟨w.heap.size + 1, 1, none⟩ (.int .i64 (ar : Int)))) := (f5.setCell (fun e => by omega) _ _); clear F2 hr2 d5 d4 f5 lt5 e5)
                | (go_at_call 61; refine (K1.out _ HA0.out).mono ?_; rintro e1 w1 ⟨⟨rfl, hr1⟩, F1⟩; have d5 := HE0.out.frr F1 (by omega); have d4 := HG0.out.frr F1 (by omega); have f5 := HF0.out.trans F1 (fun _ _ e => e); have lt5 := HE0.out.lt; have fz1 := d5.fz 0; have ky1 := d5.k0; have e5 := d5.s0 (.string nm); have HE1 := hide e5; have HG1 := hide (d4.oo (g := w.heap.size + 1) (i := 0) (x := .string nm) (by omega)); have HA1 := hide (hr1.setO (g := w.heap.size + 1) (i := 0) (u := .string nm) (by omega)); have HF1 : Hid (Fr (fun j => j = rb) w (w1.setCell ⟨w.heap.size + 1, 0, none⟩ (.string nm))) := (f5.setCell (fun e => by omega) _ _); clear F1 hr1 d5 d4 f5 lt5 e5))
              exact ⟨rfl, RQ.mkno HO.out HF6.out⟩
            | some y6 =>
              obtain ⟨cd, l6⟩ := y6
              have hsf6 := rdRow_suf (fun _ _ _ hh => (rdIns_suf hh).2) _ _ _ _ hx6
              have h8l6 := h8l5.suf hsf6
              have hln6 := hsf6.length_le
              have HRL6 := hide (row_len _ _ _ _ hx6)
              have K6 := hide (fun (W : World) (h' : RS w0 W rb l5 p) => (rowI_any w0 W rb p n l5 h' h8l5 (by omega)).mono (fun _ _ q => q.yes hx6))
              cases hx7 : rdDta (rdDat h 100) l6 p with
              | none =>
                have K7 := hide (fun (W : World) (h' : RS w0 W rb l6 p) => (data_all h w0 W rb p 100 l6 h' h8l6 (by omega) hp (by decide) hN).mono (fun _ _ q => q.no hx7))
                have HO : Hid (out = none) := by unfold Hid; rw [hout]; unfold rdPro; simp only [hx1, hx2, hx3, hx4, hx5, hx6, hx7]
                clear hr hout hW0 h8 hx1 hx2 hx3 hx4 hx5 hx6 hx7 h8l h8l1 h8l2 h8l3 h8l4 h8l5 h8l6
                go_enter Try.func50, Try.ntmps50
                go_wp2_with fail
                rw [← HW.out]
                go_wp2_with (first
                  | (go_at_call 65; refine (K7.out _ HA6.out).mono ?_; rintro e7 w7 ⟨rfl, F7⟩; have HF7 := hide (HF6.out.trans F7 (fun _ _ e => e)); clear F7)
                  | (go_at_call 63; refine (K6.out _ HA5.out).mono ?_; rintro e6 w6 ⟨⟨v6, rfl, hv6, hr6⟩, F6⟩; obtain ⟨co, rfl, hc1, hc2⟩ := RowI.code (xs := cd) hv6 (by have := HRL6.out; omega); have d5 := HE5.out.frr F6 (by omega); have d4 := HG5.out.frr F6 (by omega); have f5 := HF5.out.trans F6 (fun _ _ e => e); have lt5 := HE5.out.lt; have fz6 := d5.fz 4; have ky6 := d5.k4; have e5 := d5.s4 (.slice co cd.length cd.length); have HE6 := hide e5; have HG6 := hide (d4.oo (g := w.heap.size + 1) (i := 4) (x := .slice co cd.length cd.length) (by omega)); have HA6 := hide (hr6.setO (g := w.heap.size + 1) (i := 4) (u := .slice co cd.length cd.length) (by omega)); have HF6 : Hid (Fr (fun j => j = rb) w (w6.setCell ⟨w.heap.size + 1, 4, none⟩ (.slice co cd.length cd.length))) := (f5.setCell (fun e => by omega) _ _); have HCD6 : Hid (CodeL (w6.setCell ⟨w.heap.size + 1, 4, none⟩ (.slice co cd.length cd.length)) co cd.length cd ∧ AQ (fun b => w.heap.size + 1 < b) co cd.length) := (codeQ_keep (Q := fun b => w5.heap.size ≤ b) (w := w6) (fun k hk hq => heap_setCell_other _ _ _ _ (by show k ≠ w.heap.size + 1; omega)) (fun k hq => by omega) ⟨hc1, hc2⟩); clear F6 hr6 d5 d4 f5 lt5 e5 hv6 hc1 hc2)
                  | (go_at_call 49; refine (K5.out _ HA4.out).mono ?_; rintro e5 w5 ⟨⟨rfl, hr5⟩, F5⟩; have d5 := HE4.out.frr F5 (by omega); have d4 := HG4.out.frr F5 (by omega); have f5 := HF4.out.trans F5 (fun _ _ e => e); have lt5 := HE4.out.lt; have HE5 := hide d5; have HG5 := hide d4; have HA5 := hide hr5; have HF5 := hide f5; clear F5 hr5 d5 d4 f5 lt5)
                  | (have hx := HA3; clear hx; go_at_call 60; refine (K4.out _ HA3.out).mono ?_; rintro e4 w4 ⟨⟨rfl, hr4⟩, F4⟩; have d5 := HE3.out.frr F4 (by omega); have d4 := HG3.out.frr F4 (by omega); have f5 := HF3.out.trans F4 (fun _ _ e => e); have lt5 := HE3.out.lt; have fz4 := d5.fz 2; have ky4 := d5.k2; have e5 := d5.s2 (.int .i64 (fr : Int)); have HE4 := hide e5; have HG4 := hide (d4.oo (g := w.heap.size + 1) (i := 2) (x := .int .i64 (fr : Int)) (by omega)); have HA4 := hide (hr4.setO (g := w.heap.size + 1) (i := 2) (u := .int .i64 (fr : Int)) (by omega)); have HF4 : Hid (Fr (fun j => j = rb) w (w4.setCell ⟨w.heap.size + 1, 2, none⟩ (.int .i64 (fr : Int)))) := (f5.setCell (fun e => by omega) _ _); clear F4 hr4 d5 d4 f5 lt5 e5)
                  | (go_at_call 62; refine (K3.out _ HA2.out).mono ?_; rintro e3 w3 ⟨⟨rfl, hr3⟩, F3⟩; have d5 := HE2.out.frr F3 (by omega); have d4 := HG2.out.frr F3 (by omega); have f5 := HF2.out.trans F3 (fun _ _ e => e); have lt5 := HE2.out.lt; have fz3 := d5.fz 3; have ky3 := d5.k3; have e5 := d5.s3 (.bool rs); have HE3 := hide e5; have HG3 := hide (d4.oo (g := w.heap.size + 1) (i := 3) (x := .bool rs) (by omega)); have HA3 := hide (hr3.setO (g := w.heap.size + 1) (i := 3) (u := .bool rs) (by omega)); have HF3 : Hid (Fr (fun j => j = rb) w (w3.setCell ⟨w.heap.size + 1, 3, none⟩ (.bool rs))) := (f5.setCell (fun e => by omega) _ _); clear F3 hr3 d5 d4 f5 lt5 e5)
                  | (go_at_call 60; refine (K2.out _ HA1.out).mono ?_; rintro e2 w2 ⟨⟨rfl, hr2⟩, F2⟩; have d5 := HE1.out.frr F2 (by omega); have d4 := HG1.out.frr F2 (by omega); have f5 := HF1.out.trans F2 (fun _ _ e => e); have lt5 := HE1.out.lt; have fz2 := d5.fz 1; have ky2 := d5.k1; have e5 := d5.s1 (.int .i64 (ar : Int)); have HE2 := hide e5; have HG2 := hide (d4.oo (g := w.heap.size + 1) (i := 1) (x := .int .i64 (ar : Int)) (by omega)); have HA2 := hide (hr2.setO (g := w.heap.size + 1) (i := 1) (u := .int .i64 (ar : Int)) (by omega)); have HF2 : Hid (Fr (fun j => j = rb) w (w2.setCell ⟨w.heap.size + 1, 1, none⟩ (.int .i64 (ar : Int)))) := (f5.setCell (fun e => by omega) _ _); clear F2 hr2 d5 d4 f5 lt5 e5)
                  | (go_at_call 61; refine (K1.out _ HA0.out).mono ?_; rintro e1 w1 ⟨⟨rfl, hr1⟩, F1⟩; have d5 := HE0.out.frr F1 (by omega); have d4 := HG0.out.frr F1 (by omega); have f5 := HF0.out.trans F1 (fun _ _ e => e); have lt5 := HE0.out.lt; have fz1 := d5.fz 0; have ky1 := d5.k0; have e5 := d5.s0 (.string nm); have HE1 := hide e5; have HG1 := hide (d4.oo (g := w.heap.size + 1) (i := 0) (x := .string nm) (by omega)); have HA1 := hide (hr1.setO (g := w.heap.size + 1) (i := 0) (u := .string nm) (by omega)); have HF1 : Hid (Fr (fun j => j = rb) w (w1.setCell ⟨w.heap.size + 1, 0, none⟩ (.string nm))) := (f5.setCell (fun e => by omega) _ _); clear F1 hr1 d5 d4 f5 lt5 e5))
                exact ⟨rfl, RQ.mkno HO.out HF7.out⟩
              | some y7 =>
                obtain ⟨ks, l7, q⟩ := y7
                have hsf7 := (rdDta_suf (rdDat_suf h 100) _ _ _ _ _ hx7).1
                have h8l7 := h8l6.suf hsf7
                have hln7 := hsf7.length_le
                have hqp := (rdDta_suf (rdDat_suf h 100) _ _ _ _ _ hx7).2
                have K7 := hide (fun (W : World) (h' : RS w0 W rb l6 p) => (data_all h w0 W rb p 100 l6 h' h8l6 (by omega) hp (by decide) hN).mono (fun _ _ q => q.yes hx7))
                cases hx8 : rdCnt 1 l7 with
                | none =>
                  have K8 := hide (fun (W : World) (h' : RS w0 W rb l7 q) => (rdcnt_any w0 W rb q 1 l7 h' h8l7 (by decide) (by decide)).mono (fun _ _ q => q.no hx8))
                  have HO : Hid (out = none) := by unfold Hid; rw [hout]; unfold rdPro; simp only [hx1, hx2, hx3, hx4, hx5, hx6, hx7, hx8]
                  clear hr hout hW0 h8 hx1 hx2 hx3 hx4 hx5 hx6 hx7 hx8 h8l h8l1 h8l2 h8l3 h8l4 h8l5 h8l6 h8l7
                  go_enter Try.func50, Try.ntmps50
                  go_wp2_with fail
                  rw [← HW.out]
                  go_wp2_with (first
                    | (have hx := HA7; clear hx; go_at_call 49; refine (K8.out _ HA7.out).mono ?_; rintro e8 w8 ⟨rfl, F8⟩; have HF8 := hide (HF7.out.trans F8 (fun _ _ e => e)); clear F8)
                    | (go_at_call 65; refine (K7.out _ HA6.out).mono ?_; rintro e7 w7 ⟨⟨v7, rfl, hv7, hw7, hr7⟩, F7⟩; obtain ⟨ka, kc, rfl⟩ := hv7.shape; have d5 := HE6.out.frr F7 (by omega); have d4 := HG6.out.frr F7 (by omega); have f5 := HF6.out.trans F7 (fun _ _ e => e); have lt5 := HE6.out.lt; have fz7 := d5.fz 5; have ky7 := d5.k5; have e5 := d5.s5 (.slice ka ks.length kc); have HE7 := hide e5; have HG7 := hide (d4.oo (g := w.heap.size + 1) (i := 5) (x := .slice ka ks.length kc) (by omega)); have HA7 := hide (hr7.setO (g := w.heap.size + 1) (i := 5) (u := .slice ka ks.length kc) (by omega)); have HF7 : Hid (Fr (fun j => j = rb) w (w7.setCell ⟨w.heap.size + 1, 5, none⟩ (.slice ka ks.length kc))) := (f5.setCell (fun e => by omega) _ _); have HCD7 := hide (codeQ_keep (w' := (w7.setCell ⟨w.heap.size + 1, 5, none⟩ (.slice ka ks.length kc))) (fun k hk hq => (heap_setCell_other _ _ _ _ (by show k ≠ w.heap.size + 1; omega)).trans (F7.block k hk (by omega))) (fun k hq => hq) HCD6.out); have HKS7 := hide (rowQ_keep (w := w7) (w' := (w7.setCell ⟨w.heap.size + 1, 5, none⟩ (.slice ka ks.length kc))) (Q' := fun b => w.heap.size + 1 < b) hv7 hw7 (fun k hk hq => heap_setCell_other _ _ _ _ (by show k ≠ w.heap.size + 1; omega)) (fun k hq => by omega)); clear F7 hr7 d5 d4 f5 lt5 e5 hv7 hw7)
                    | (go_at_call 63; refine (K6.out _ HA5.out).mono ?_; rintro e6 w6 ⟨⟨v6, rfl, hv6, hr6⟩, F6⟩; obtain ⟨co, rfl, hc1, hc2⟩ := RowI.code (xs := cd) hv6 (by have := HRL6.out; omega); have d5 := HE5.out.frr F6 (by omega); have d4 := HG5.out.frr F6 (by omega); have f5 := HF5.out.trans F6 (fun _ _ e => e); have lt5 := HE5.out.lt; have fz6 := d5.fz 4; have ky6 := d5.k4; have e5 := d5.s4 (.slice co cd.length cd.length); have HE6 := hide e5; have HG6 := hide (d4.oo (g := w.heap.size + 1) (i := 4) (x := .slice co cd.length cd.length) (by omega)); have HA6 := hide (hr6.setO (g := w.heap.size + 1) (i := 4) (u := .slice co cd.length cd.length) (by omega)); have HF6 : Hid (Fr (fun j => j = rb) w (w6.setCell ⟨w.heap.size + 1, 4, none⟩ (.slice co cd.length cd.length))) := (f5.setCell (fun e => by omega) _ _); have HCD6 : Hid (CodeL (w6.setCell ⟨w.heap.size + 1, 4, none⟩ (.slice co cd.length cd.length)) co cd.length cd ∧ AQ (fun b => w.heap.size + 1 < b) co cd.length) := (codeQ_keep (Q := fun b => w5.heap.size ≤ b) (w := w6) (fun k hk hq => heap_setCell_other _ _ _ _ (by show k ≠ w.heap.size + 1; omega)) (fun k hq => by omega) ⟨hc1, hc2⟩); clear F6 hr6 d5 d4 f5 lt5 e5 hv6 hc1 hc2)
                    | (go_at_call 49; refine (K5.out _ HA4.out).mono ?_; rintro e5 w5 ⟨⟨rfl, hr5⟩, F5⟩; have d5 := HE4.out.frr F5 (by omega); have d4 := HG4.out.frr F5 (by omega); have f5 := HF4.out.trans F5 (fun _ _ e => e); have lt5 := HE4.out.lt; have HE5 := hide d5; have HG5 := hide d4; have HA5 := hide hr5; have HF5 := hide f5; clear F5 hr5 d5 d4 f5 lt5)
                    | (have hx := HA3; clear hx; go_at_call 60; refine (K4.out _ HA3.out).mono ?_; rintro e4 w4 ⟨⟨rfl, hr4⟩, F4⟩; have d5 := HE3.out.frr F4 (by omega); have d4 := HG3.out.frr F4 (by omega); have f5 := HF3.out.trans F4 (fun _ _ e => e); have lt5 := HE3.out.lt; have fz4 := d5.fz 2; have ky4 := d5.k2; have e5 := d5.s2 (.int .i64 (fr : Int)); have HE4 := hide e5; have HG4 := hide (d4.oo (g := w.heap.size + 1) (i := 2) (x := .int .i64 (fr : Int)) (by omega)); have HA4 := hide (hr4.setO (g := w.heap.size + 1) (i := 2) (u := .int .i64 (fr : Int)) (by omega)); have HF4 : Hid (Fr (fun j => j = rb) w (w4.setCell ⟨w.heap.size + 1, 2, none⟩ (.int .i64 (fr : Int)))) := (f5.setCell (fun e => by omega) _ _); clear F4 hr4 d5 d4 f5 lt5 e5)
                    | (go_at_call 62; refine (K3.out _ HA2.out).mono ?_; rintro e3 w3 ⟨⟨rfl, hr3⟩, F3⟩; have d5 := HE2.out.frr F3 (by omega); have d4 := HG2.out.frr F3 (by omega); have f5 := HF2.out.trans F3 (fun _ _ e => e); have lt5 := HE2.out.lt; have fz3 := d5.fz 3; have ky3 := d5.k3; have e5 := d5.s3 (.bool rs); have HE3 := hide e5; have HG3 := hide (d4.oo (g := w.heap.size + 1) (i := 3) (x := .bool rs) (by omega)); have HA3 := hide (hr3.setO (g := w.heap.size + 1) (i := 3) (u := .bool rs) (by omega)); have HF3 : Hid (Fr (fun j => j = rb) w (w3.setCell ⟨w.heap.size + 1, 3, none⟩ (.bool rs))) := (f5.setCell (fun e => by omega) _ _); clear F3 hr3 d5 d4 f5 lt5 e5)
                    | (go_at_call 60; refine (K2.out _ HA1.out).mono ?_; rintro e2 w2 ⟨⟨rfl, hr2⟩, F2⟩; have d5 := HE1.out.frr F2 (by omega); have d4 := HG1.out.frr F2 (by omega); have f5 := HF1.out.trans F2 (fun _ _ e => e); have lt5 := HE1.out.lt; have fz2 := d5.fz 1; have ky2 := d5.k1; have e5 := d5.s1 (.int .i64 (ar : Int)); have HE2 := hide e5; have HG2 := hide (d4.oo (g := w.heap.size + 1) (i := 1) (x := .int .i64 (ar : Int)) (by omega)); have HA2 := hide (hr2.setO (g := w.heap.size + 1) (i := 1) (u := .int .i64 (ar : Int)) (by omega)); have HF2 : Hid (Fr (fun j => j = rb) w (w2.setCell ⟨w.heap.size + 1, 1, none⟩ (.int .i64 (ar : Int)))) := (f5.setCell (fun e => by omega) _ _); clear F2 hr2 d5 d4 f5 lt5 e5)
                    | (go_at_call 61; refine (K1.out _ HA0.out).mono ?_; rintro e1 w1 ⟨⟨rfl, hr1⟩, F1⟩; have d5 := HE0.out.frr F1 (by omega); have d4 := HG0.out.frr F1 (by omega); have f5 := HF0.out.trans F1 (fun _ _ e => e); have lt5 := HE0.out.lt; have fz1 := d5.fz 0; have ky1 := d5.k0; have e5 := d5.s0 (.string nm); have HE1 := hide e5; have HG1 := hide (d4.oo (g := w.heap.size + 1) (i := 0) (x := .string nm) (by omega)); have HA1 := hide (hr1.setO (g := w.heap.size + 1) (i := 0) (u := .string nm) (by omega)); have HF1 : Hid (Fr (fun j => j = rb) w (w1.setCell ⟨w.heap.size + 1, 0, none⟩ (.string nm))) := (f5.setCell (fun e => by omega) _ _); clear F1 hr1 d5 d4 f5 lt5 e5))
                  exact ⟨rfl, RQ.mkno HO.out HF8.out⟩
                | some y8 =>
                  obtain ⟨n2, l8⟩ := y8
                  have hsf8 := (rdCnt_len hx8).2.2
                  have h8l8 := h8l7.suf hsf8
                  have hln8 := hsf8.length_le
                  have hcn8 := (rdCnt_len hx8).2.1
                  have hcd8 := Nat.div_le_self l8.length 1
                  have K8 := hide (fun (W : World) (h' : RS w0 W rb l7 q) => (rdcnt_any w0 W rb q 1 l7 h' h8l7 (by decide) (by decide)).mono (fun _ _ q => q.yes hx8))
                  cases hx9 : rdRow rdTxt n2 l8 with
                  | none =>
                    have K9 := hide (fun (W : World) (h' : RS w0 W rb l8 q) => (rowX_any w0 W rb q n2 l8 h' h8l8 (by omega)).mono (fun _ _ q => q.no hx9))
                    have HO : Hid (out = none) := by unfold Hid; rw [hout]; unfold rdPro; simp only [hx1, hx2, hx3, hx4, hx5, hx6, hx7, hx8, hx9]
                    clear hr hout hW0 h8 hx1 hx2 hx3 hx4 hx5 hx6 hx7 hx8 hx9 h8l h8l1 h8l2 h8l3 h8l4 h8l5 h8l6 h8l7 h8l8
                    go_enter Try.func50, Try.ntmps50
                    go_wp2_with fail
                    rw [← HW.out]
                    go_wp2_with (first
                      | (go_at_call 66; refine (K9.out _ HA8.out).mono ?_; rintro e9 w9 ⟨rfl, F9⟩; have HF9 := hide (HF8.out.trans F9 (fun _ _ e => e)); clear F9)
                      | (have hx := HA7; clear hx; go_at_call 49; refine (K8.out _ HA7.out).mono ?_; rintro e8 w8 ⟨⟨rfl, hr8⟩, F8⟩; have d5 := HE7.out.frr F8 (by omega); have d4 := HG7.out.frr F8 (by omega); have f5 := HF7.out.trans F8 (fun _ _ e => e); have lt5 := HE7.out.lt; have HE8 := hide d5; have HG8 := hide d4; have HA8 := hide hr8; have HF8 := hide f5; have HCD8 := hide (codeQ_keep (w' := w8) (fun k hk hq => (F8.block k hk (by omega))) (fun k hq => hq) HCD7.out); have HKS8 := hide (rowQ_keep HKS7.out.1 HKS7.out.2 (w' := w8) (fun k hk hq => (F8.block k hk (by omega))) (fun k hq => hq)); clear F8 hr8 d5 d4 f5 lt5)
                      | (go_at_call 65; refine (K7.out _ HA6.out).mono ?_; rintro e7 w7 ⟨⟨v7, rfl, hv7, hw7, hr7⟩, F7⟩; obtain ⟨ka, kc, rfl⟩ := hv7.shape; have d5 := HE6.out.frr F7 (by omega); have d4 := HG6.out.frr F7 (by omega); have f5 := HF6.out.trans F7 (fun _ _ e => e); have lt5 := HE6.out.lt; have fz7 := d5.fz 5; have ky7 := d5.k5; have e5 := d5.s5 (.slice ka ks.length kc); have HE7 := hide e5; have HG7 := hide (d4.oo (g := w.heap.size + 1) (i := 5) (x := .slice ka ks.length kc) (by omega)); have HA7 := hide (hr7.setO (g := w.heap.size + 1) (i := 5) (u := .slice ka ks.length kc) (by omega)); have HF7 : Hid (Fr (fun j => j = rb) w (w7.setCell ⟨w.heap.size + 1, 5, none⟩ (.slice ka ks.length kc))) := (f5.setCell (fun e => by omega) _ _); have HCD7 := hide (codeQ_keep (w' := (w7.setCell ⟨w.heap.size + 1, 5, none⟩ (.slice ka ks.length kc))) (fun k hk hq => (heap_setCell_other _ _ _ _ (by show k ≠ w.heap.size + 1; omega)).trans (F7.block k hk (by omega))) (fun k hq => hq) HCD6.out); have HKS7 := hide (rowQ_keep (w := w7) (w' := (w7.setCell ⟨w.heap.size + 1, 5, none⟩ (.slice ka ks.length kc))) (Q' := fun b => w.heap.size + 1 < b) hv7 hw7 (fun k hk hq => heap_setCell_other _ _ _ _ (by show k ≠ w.heap.size + 1; omega)) (fun k hq => by omega)); clear F7 hr7 d5 d4 f5 lt5 e5 hv7 hw7)
                      | (go_at_call 63; refine (K6.out _ HA5.out).mono ?_; rintro e6 w6 ⟨⟨v6, rfl, hv6, hr6⟩, F6⟩; obtain ⟨co, rfl, hc1, hc2⟩ := RowI.code (xs := cd) hv6 (by have := HRL6.out; omega); have d5 := HE5.out.frr F6 (by omega); have d4 := HG5.out.frr F6 (by omega); have f5 := HF5.out.trans F6 (fun _ _ e => e); have lt5 := HE5.out.lt; have fz6 := d5.fz 4; have ky6 := d5.k4; have e5 := d5.s4 (.slice co cd.length cd.length); have HE6 := hide e5; have HG6 := hide (d4.oo (g := w.heap.size + 1) (i := 4) (x := .slice co cd.length cd.length) (by omega)); have HA6 := hide (hr6.setO (g := w.heap.size + 1) (i := 4) (u := .slice co cd.length cd.length) (by omega)); have HF6 : Hid (Fr (fun j => j = rb) w (w6.setCell ⟨w.heap.size + 1, 4, none⟩ (.slice co cd.length cd.length))) := (f5.setCell (fun e => by omega) _ _); have HCD6 : Hid (CodeL (w6.setCell ⟨w.heap.size + 1, 4, none⟩ (.slice co cd.length cd.length)) co cd.length cd ∧ AQ (fun b => w.heap.size + 1 < b) co cd.length) := (codeQ_keep (Q := fun b => w5.heap.size ≤ b) (w := w6) (fun k hk hq => heap_setCell_other _ _ _ _ (by show k ≠ w.heap.size + 1; omega)) (fun k hq => by omega) ⟨hc1, hc2⟩); clear F6 hr6 d5 d4 f5 lt5 e5 hv6 hc1 hc2)
                      | (go_at_call 49; refine (K5.out _ HA4.out).mono ?_; rintro e5 w5 ⟨⟨rfl, hr5⟩, F5⟩; have d5 := HE4.out.frr F5 (by omega); have d4 := HG4.out.frr F5 (by omega); have f5 := HF4.out.trans F5 (fun _ _ e => e); have lt5 := HE4.out.lt; have HE5 := hide d5; have HG5 := hide d4; have HA5 := hide hr5; have HF5 := hide f5; clear F5 hr5 d5 d4 f5 lt5)
                      | (have hx := HA3; clear hx; go_at_call 60; refine (K4.out _ HA3.out).mono ?_; rintro e4 w4 ⟨⟨rfl, hr4⟩, F4⟩; have d5 := HE3.out.frr F4 (by omega); have d4 := HG3.out.frr F4 (by omega); have f5 := HF3.out.trans F4 (fun _ _ e => e); have lt5 := HE3.out.lt; have fz4 := d5.fz 2; have ky4 := d5.k2; have e5 := d5.s2 (.int .i64 (fr : Int)); have HE4 := hide e5; have HG4 := hide (d4.oo (g := w.heap.size + 1) (i := 2) (x := .int .i64 (fr : Int)) (by omega)); have HA4 := hide (hr4.setO (g := w.heap.size + 1) (i := 2) (u := .int .i64 (fr : Int)) (by omega)); have HF4 : Hid (Fr (fun j => j = rb) w (w4.setCell ⟨w.heap.size + 1, 2, none⟩ (.int .i64 (fr : Int)))) := (f5.setCell (fun e => by omega) _ _); clear F4 hr4 d5 d4 f5 lt5 e5)
                      | (go_at_call 62; refine (K3.out _ HA2.out).mono ?_; rintro e3 w3 ⟨⟨rfl, hr3⟩, F3⟩; have d5 := HE2.out.frr F3 (by omega); have d4 := HG2.out.frr F3 (by omega); have f5 := HF2.out.trans F3 (fun _ _ e => e); have lt5 := HE2.out.lt; have fz3 := d5.fz 3; have ky3 := d5.k3; have e5 := d5.s3 (.bool rs); have HE3 := hide e5; have HG3 := hide (d4.oo (g := w.heap.size + 1) (i := 3) (x := .bool rs) (by omega)); have HA3 := hide (hr3.setO (g := w.heap.size + 1) (i := 3) (u := .bool rs) (by omega)); have HF3 : Hid (Fr (fun j => j = rb) w (w3.setCell ⟨w.heap.size + 1, 3, none⟩ (.bool rs))) := (f5.setCell (fun e => by omega) _ _); clear F3 hr3 d5 d4 f5 lt5 e5)
                      | (go_at_call 60; refine (K2.out _ HA1.out).mono ?_; rintro e2 w2 ⟨⟨rfl, hr2⟩, F2⟩; have d5 := HE1.out.frr F2 (by omega); have d4 := HG1.out.frr F2 (by omega); have f5 := HF1.out.trans F2 (fun _ _ e => e); have lt5 := HE1.out.lt; have fz2 := d5.fz 1; have ky2 := d5.k1; have e5 := d5.s1 (.int .i64 (ar : Int)); have HE2 := hide e5; have HG2 := hide (d4.oo (g := w.heap.size + 1) (i := 1) (x := .int .i64 (ar : Int)) (by omega)); have HA2 := hide (hr2.setO (g := w.heap.size + 1) (i := 1) (u := .int .i64 (ar : Int)) (by omega)); have HF2 : Hid (Fr (fun j => j = rb) w (w2.setCell ⟨w.heap.size + 1, 1, none⟩ (.int .i64 (ar : Int)))) := (f5.setCell (fun e => by omega) _ _); clear F2 hr2 d5 d4 f5 lt5 e5)
                      | (go_at_call 61; refine (K1.out _ HA0.out).mono ?_; rintro e1 w1 ⟨⟨rfl, hr1⟩, F1⟩; have d5 := HE0.out.frr F1 (by omega); have d4 := HG0.out.frr F1 (by omega); have f5 := HF0.out.trans F1 (fun _ _ e => e); have lt5 := HE0.out.lt; have fz1 := d5.fz 0; have ky1 := d5.k0; have e5 := d5.s0 (.string nm); have HE1 := hide e5; have HG1 := hide (d4.oo (g := w.heap.size + 1) (i := 0) (x := .string nm) (by omega)); have HA1 := hide (hr1.setO (g := w.heap.size + 1) (i := 0) (u := .string nm) (by omega)); have HF1 : Hid (Fr (fun j => j = rb) w (w1.setCell ⟨w.heap.size + 1, 0, none⟩ (.string nm))) := (f5.setCell (fun e => by omega) _ _); clear F1 hr1 d5 d4 f5 lt5 e5))
                    exact ⟨rfl, RQ.mkno HO.out HF9.out⟩
                  | some y9 =>
                    obtain ⟨ns, l9⟩ := y9
                    have hsf9 := rdRow_suf (fun _ _ _ hh => rdTxt_suf hh) _ _ _ _ hx9
                    have h8l9 := h8l8.suf hsf9
                    have hln9 := hsf9.length_le
                    have HRL9 := hide (row_len _ _ _ _ hx9)
                    have K9 := hide (fun (W : World) (h' : RS w0 W rb l8 q) => (rowX_any w0 W rb q n2 l8 h' h8l8 (by omega)).mono (fun _ _ q => q.yes hx9))
                    have HO : Hid (out = some (⟨nm, (ar : Int), (fr : Int), rs, cd, ks, ns⟩, l9, q)) := by unfold Hid; rw [hout]; unfold rdPro; simp only [hx1, hx2, hx3, hx4, hx5, hx6, hx7, hx8, hx9]
                    clear hr hout hW0 h8 hx1 hx2 hx3 hx4 hx5 hx6 hx7 hx8 hx9 h8l h8l1 h8l2 h8l3 h8l4 h8l5 h8l6 h8l7 h8l8 h8l9
                    go_enter Try.func50, Try.ntmps50
                    go_wp2_with fail
                    rw [← HW.out]
                    go_wp2_with (first
                      | (go_at_call 66; refine (K9.out _ HA8.out).mono ?_; rintro e9 w9 ⟨⟨v9, rfl, hv9, hr9⟩, F9⟩; obtain ⟨na, rfl, hc1, hc2⟩ := RowX.names (xs := ns) hv9 (by have := HRL9.out; omega); have d5 := HE8.out.frr F9 (by omega); have d4 := HG8.out.frr F9 (by omega); have f5 := HF8.out.trans F9 (fun _ _ e => e); have lt5 := HE8.out.lt; have fz9 := d5.fz 6; have ky9 := d5.k6; have e5 := d5.s6 (.slice na ns.length ns.length); have HE9 := hide e5; have HG9 := hide (d4.oo (g := w.heap.size + 1) (i := 6) (x := .slice na ns.length ns.length) (by omega)); have HA9 := hide (hr9.setO (g := w.heap.size + 1) (i := 6) (u := .slice na ns.length ns.length) (by omega)); have HF9 : Hid (Fr (fun j => j = rb) w (w9.setCell ⟨w.heap.size + 1, 6, none⟩ (.slice na ns.length ns.length))) := (f5.setCell (fun e => by omega) _ _); have HCD9 := hide (codeQ_keep (w' := (w9.setCell ⟨w.heap.size + 1, 6, none⟩ (.slice na ns.length ns.length))) (fun k hk hq => (heap_setCell_other _ _ _ _ (by show k ≠ w.heap.size + 1; omega)).trans (F9.block k hk (by omega))) (fun k hq => hq) HCD8.out); have HKS9 := hide (rowQ_keep HKS8.out.1 HKS8.out.2 (w' := (w9.setCell ⟨w.heap.size + 1, 6, none⟩ (.slice na ns.length ns.length))) (fun k hk hq => (heap_setCell_other _ _ _ _ (by show k ≠ w.heap.size + 1; omega)).trans (F9.block k hk (by omega))) (fun k hq => hq)); have HNS9 : Hid (NameL (w9.setCell ⟨w.heap.size + 1, 6, none⟩ (.slice na ns.length ns.length)) na ns.length ns ∧ AQ (fun b => w.heap.size + 1 < b) na ns.length) := (nameQ_keep (Q := fun b => w8.heap.size ≤ b) (w := w9) (fun k hk hq => heap_setCell_other _ _ _ _ (by show k ≠ w.heap.size + 1; omega)) (fun k hq => by omega) ⟨hc1, hc2⟩); have x90 := e5.k0; have x91 := e5.k1; have x92 := e5.k2; have x93 := e5.k3; have x94 := e5.k4; have x95 := e5.k5; have x96 := e5.k6; have G := HG9.out; have gz0 := G.fz 0; have gy0 := G.k0; have T0 := G.s0 (.string nm); have gz1 := T0.fz 1; have gy1 := T0.k1; have T1 := T0.s1 (.int .i64 (ar : Int)); have gz2 := T1.fz 2; have gy2 := T1.k2; have T2 := T1.s2 (.int .i64 (fr : Int)); have gz3 := T2.fz 3; have gy3 := T2.k3; have T3 := T2.s3 (.bool rs); have gz4 := T3.fz 4; have gy4 := T3.k4; have T4 := T3.s4 (.slice co cd.length cd.length); have gz5 := T4.fz 5; have gy5 := T4.k5; have T5 := T4.s5 (.slice ka ks.length kc); have gz6 := T5.fz 6; have gy6 := T5.k6; have T6 := T5.s6 (.slice na ns.length ns.length); have kr0 := T6.k0; have kr1 := T6.k1; have kr2 := T6.k2; have kr3 := T6.k3; have kr4 := T6.k4; have kr5 := T6.k5; have kr6 := T6.k6; clear G T0 T1 T2 T3 T4 T5 T6; clear F9 hr9 d5 d4 f5 lt5 e5 hv9 hc1 hc2)
                      | (have hx := HA7; clear hx; go_at_call 49; refine (K8.out _ HA7.out).mono ?_; rintro e8 w8 ⟨⟨rfl, hr8⟩, F8⟩; have d5 := HE7.out.frr F8 (by omega); have d4 := HG7.out.frr F8 (by omega); have f5 := HF7.out.trans F8 (fun _ _ e => e); have lt5 := HE7.out.lt; have HE8 := hide d5; have HG8 := hide d4; have HA8 := hide hr8; have HF8 := hide f5; have HCD8 := hide (codeQ_keep (w' := w8) (fun k hk hq => (F8.block k hk (by omega))) (fun k hq => hq) HCD7.out); have HKS8 := hide (rowQ_keep HKS7.out.1 HKS7.out.2 (w' := w8) (fun k hk hq => (F8.block k hk (by omega))) (fun k hq => hq)); clear F8 hr8 d5 d4 f5 lt5)
                      | (go_at_call 65; refine (K7.out _ HA6.out).mono ?_; rintro e7 w7 ⟨⟨v7, rfl, hv7, hw7, hr7⟩, F7⟩; obtain ⟨ka, kc, rfl⟩ := hv7.shape; have d5 := HE6.out.frr F7 (by omega); have d4 := HG6.out.frr F7 (by omega); have f5 := HF6.out.trans F7 (fun _ _ e => e); have lt5 := HE6.out.lt; have fz7 := d5.fz 5; have ky7 := d5.k5; have e5 := d5.s5 (.slice ka ks.length kc); have HE7 := hide e5; have HG7 := hide (d4.oo (g := w.heap.size + 1) (i := 5) (x := .slice ka ks.length kc) (by omega)); have HA7 := hide (hr7.setO (g := w.heap.size + 1) (i := 5) (u := .slice ka ks.length kc) (by omega)); have HF7 : Hid (Fr (fun j => j = rb) w (w7.setCell ⟨w.heap.size + 1, 5, none⟩ (.slice ka ks.length kc))) := (f5.setCell (fun e => by omega) _ _); have HCD7 := hide (codeQ_keep (w' := (w7.setCell ⟨w.heap.size + 1, 5, none⟩ (.slice ka ks.length kc))) (fun k hk hq => (heap_setCell_other _ _ _ _ (by show k ≠ w.heap.size + 1; omega)).trans (F7.block k hk (by omega))) (fun k hq => hq) HCD6.out); have HKS7 := hide (rowQ_keep (w := w7) (w' := (w7.setCell ⟨w.heap.size + 1, 5, none⟩ (.slice ka ks.length kc))) (Q' := fun b => w.heap.size + 1 < b) hv7 hw7 (fun k hk hq => heap_setCell_other _ _ _ _ (by show k ≠ w.heap.size + 1; omega)) (fun k hq => by omega)); clear F7 hr7 d5 d4 f5 lt5 e5 hv7 hw7)
                      | (go_at_call 63; refine (K6.out _ HA5.out).mono ?_; rintro e6 w6 ⟨⟨v6, rfl, hv6, hr6⟩, F6⟩; obtain ⟨co, rfl, hc1, hc2⟩ := RowI.code (xs := cd) hv6 (by have := HRL6.out; omega); have d5 := HE5.out.frr F6 (by omega); have d4 := HG5.out.frr F6 (by omega); have f5 := HF5.out.trans F6 (fun _ _ e => e); have lt5 := HE5.out.lt; have fz6 := d5.fz 4; have ky6 := d5.k4; have e5 := d5.s4 (.slice co cd.length cd.length); have HE6 := hide e5; have HG6 := hide (d4.oo (g := w.heap.size + 1) (i := 4) (x := .slice co cd.length cd.length) (by omega)); have HA6 := hide (hr6.setO (g := w.heap.size + 1) (i := 4) (u := .slice co cd.length cd.length) (by omega)); have HF6 : Hid (Fr (fun j => j = rb) w (w6.setCell ⟨w.heap.size + 1, 4, none⟩ (.slice co cd.length cd.length))) := (f5.setCell (fun e => by omega) _ _); have HCD6 : Hid (CodeL (w6.setCell ⟨w.heap.size + 1, 4, none⟩ (.slice co cd.length cd.length)) co cd.length cd ∧ AQ (fun b => w.heap.size + 1 < b) co cd.length) := (codeQ_keep (Q := fun b => w5.heap.size ≤ b) (w := w6) (fun k hk hq => heap_setCell_other _ _ _ _ (by show k ≠ w.heap.size + 1; omega)) (fun k hq => by omega) ⟨hc1, hc2⟩); clear F6 hr6 d5 d4 f5 lt5 e5 hv6 hc1 hc2)
                      | (go_at_call 49; refine (K5.out _ HA4.out).mono ?_; rintro e5 w5 ⟨⟨rfl, hr5⟩, F5⟩; have d5 := HE4.out.frr F5 (by omega); have d4 := HG4.out.frr F5 (by omega); have f5 := HF4.out.trans F5 (fun _ _ e => e); have lt5 := HE4.out.lt; have HE5 := hide d5; have HG5 := hide d4; have HA5 := hide hr5; have HF5 := hide f5; clear F5 hr5 d5 d4 f5 lt5)
                      | (have hx := HA3; clear hx; go_at_call 60; refine (K4.out _ HA3.out).mono ?_; rintro e4 w4 ⟨⟨rfl, hr4⟩, F4⟩; have d5 := HE3.out.frr F4 (by omega); have d4 := HG3.out.frr F4 (by omega); have f5 := HF3.out.trans F4 (fun _ _ e => e); have lt5 := HE3.out.lt; have fz4 := d5.fz 2; have ky4 := d5.k2; have e5 := d5.s2 (.int .i64 (fr : Int)); have HE4 := hide e5; have HG4 := hide (d4.oo (g := w.heap.size + 1) (i := 2) (x := .int .i64 (fr : Int)) (by omega)); have HA4 := hide (hr4.setO (g := w.heap.size + 1) (i := 2) (u := .int .i64 (fr : Int)) (by omega)); have HF4 : Hid (Fr (fun j => j = rb) w (w4.setCell ⟨w.heap.size + 1, 2, none⟩ (.int .i64 (fr : Int)))) := (f5.setCell (fun e => by omega) _ _); clear F4 hr4 d5 d4 f5 lt5 e5)
                      | (go_at_call 62; refine (K3.out _ HA2.out).mono ?_; rintro e3 w3 ⟨⟨rfl, hr3⟩, F3⟩; have d5 := HE2.out.frr F3 (by omega); have d4 := HG2.out.frr F3 (by omega); have f5 := HF2.out.trans F3 (fun _ _ e => e); have lt5 := HE2.out.lt; have fz3 := d5.fz 3; have ky3 := d5.k3; have e5 := d5.s3 (.bool rs); have HE3 := hide e5; have HG3 := hide (d4.oo (g := w.heap.size + 1) (i := 3) (x := .bool rs) (by omega)); have HA3 := hide (hr3.setO (g := w.heap.size + 1) (i := 3) (u := .bool rs) (by omega)); have HF3 : Hid (Fr (fun j => j = rb) w (w3.setCell ⟨w.heap.size + 1, 3, none⟩ (.bool rs))) := (f5.setCell (fun e => by omega) _ _); clear F3 hr3 d5 d4 f5 lt5 e5)
                      | (go_at_call 60; refine (K2.out _ HA1.out).mono ?_; rintro e2 w2 ⟨⟨rfl, hr2⟩, F2⟩; have d5 := HE1.out.frr F2 (by omega); have d4 := HG1.out.frr F2 (by omega); have f5 := HF1.out.trans F2 (fun _ _ e => e); have lt5 := HE1.out.lt; have fz2 := d5.fz 1; have ky2 := d5.k1; have e5 := d5.s1 (.int .i64 (ar : Int)); have HE2 := hide e5; have HG2 := hide (d4.oo (g := w.heap.size + 1) (i := 1) (x := .int .i64 (ar : Int)) (by omega)); have HA2 := hide (hr2.setO (g := w.heap.size + 1) (i := 1) (u := .int .i64 (ar : Int)) (by omega)); have HF2 : Hid (Fr (fun j => j = rb) w (w2.setCell ⟨w.heap.size + 1, 1, none⟩ (.int .i64 (ar : Int)))) := (f5.setCell (fun e => by omega) _ _); clear F2 hr2 d5 d4 f5 lt5 e5)
                      | (go_at_call 61; refine (K1.out _ HA0.out).mono ?_; rintro e1 w1 ⟨⟨rfl, hr1⟩, F1⟩; have d5 := HE0.out.frr F1 (by omega); have d4 := HG0.out.frr F1 (by omega); have f5 := HF0.out.trans F1 (fun _ _ e => e); have lt5 := HE0.out.lt; have fz1 := d5.fz 0; have ky1 := d5.k0; have e5 := d5.s0 (.string nm); have HE1 := hide e5; have HG1 := hide (d4.oo (g := w.heap.size + 1) (i := 0) (x := .string nm) (by omega)); have HA1 := hide (hr1.setO (g := w.heap.size + 1) (i := 0) (u := .string nm) (by omega)); have HF1 : Hid (Fr (fun j => j = rb) w (w1.setCell ⟨w.heap.size + 1, 0, none⟩ (.string nm))) := (f5.setCell (fun e => by omega) _ _); clear F1 hr1 d5 d4 f5 lt5 e5))
                    refine bodyPost_ret (by simp [results, Try.results50, go_sem, kr0, kr1, kr2, kr3, kr4, kr5, kr6]; rfl) rfl ?_
                    have c1 := codeQ_keep (Q' := fun b => w.heap.size ≤ b) (w' := set7 _ w.heap.size (.string nm) (.int .i64 (ar : Int)) (.int .i64 (fr : Int)) (.bool rs) (.slice co cd.length cd.length) (.slice ka ks.length kc) (.slice na ns.length ns.length)) (fun k hk hq => set7_other (by omega) _ _ _ _ _ _ _) (fun k hq => by omega) HCD9.out
                    have c2 := rowQ_keep HKS9.out.1 HKS9.out.2 (Q' := fun b => w.heap.size ≤ b) (w' := set7 _ w.heap.size (.string nm) (.int .i64 (ar : Int)) (.int .i64 (fr : Int)) (.bool rs) (.slice co cd.length cd.length) (.slice ka ks.length kc) (.slice na ns.length ns.length)) (fun k hk hq => set7_other (by omega) _ _ _ _ _ _ _) (fun k hq => by omega)
                    have c3 := nameQ_keep (Q' := fun b => w.heap.size ≤ b) (w' := set7 _ w.heap.size (.string nm) (.int .i64 (ar : Int)) (.int .i64 (fr : Int)) (.bool rs) (.slice co cd.length cd.length) (.slice ka ks.length kc) (.slice na ns.length ns.length)) (fun k hk hq => set7_other (by omega) _ _ _ _ _ _ _) (fun k hq => by omega) HNS9.out
                    exact RQ.mk' HO.out (set7_fr HF9.out (Nat.le_refl _) _ _ _ _ _ _ _) ⟨co, _, ka, kc, na, _, rfl, ⟨co, _, ka, kc, na, _, rfl, c1, c2, c3⟩, set7_rs HA9.out hrb _ _ _ _ _ _ _⟩

end Go.Proofs.Ytilcigjhogcjkaa
