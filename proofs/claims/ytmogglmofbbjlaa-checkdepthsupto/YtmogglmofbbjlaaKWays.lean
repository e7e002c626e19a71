/-
  What is proved here: the places that an instruction goes on to: check's ways.
-/
import Derived.Test.YtmogglmofbbjlaaKReach
namespace Go.Proofs.Ytmogglmofbbjlaa
open Go Go.RowKit

/-- A list of places, in memory. -/
def WaysAt (w : World) (B : Nat) (v : Value) (l : List Int) : Prop :=
  ∃ ao cap, v = .slice ao l.length cap ∧ l.length ≤ cap ∧ cap ≤ 9223372036854775807 ∧ (l = [] ∨ ∃ g, ao = some ⟨g, 0, none⟩ ∧ B ≤ g ∧ ∀ j x, l[j]? = some x → w.cell? ⟨g, j, none⟩ = some (.int .i64 x))
theorem WaysAt.of {w : World} {B n : Nat} {v : Value} {xs : List Value} {l : List Int} (h : w.ownsRow B 3 1 v n xs) (hx : xs = l.map (Value.int .i64)) : WaysAt w B v l := by
  obtain ⟨h0, h⟩ := h
  subst hx
  simp at h0
  rcases h with ⟨rfl, rfl⟩ | ⟨g, cap, cur, rfl, hB, h2, h3, h4, h5, h6⟩
  · have : l = [] := by simpa using h0
    subst this
    exact ⟨none, 0, rfl, by simp, by simp, .inl rfl⟩
  · refine ⟨some ⟨g, 0, none⟩, cap, by rw [h0], by omega, h4, .inr ⟨g, rfl, hB, fun j x hj => cell_row h2 ?_⟩⟩
    have hjl : j < l.length := (List.getElem?_eq_some_iff.1 hj).1
    have : (cur.toList.take (n * 1))[j]? = some (.int .i64 x) := by rw [h6, List.getElem?_map, hj]; rfl
    rw [List.getElem?_take, if_pos (by omega)] at this
    simpa using this
theorem nil_owns (w : World) (B : Nat) : w.ownsRow B 3 1 (.slice none 0 0) 0 [] := ⟨rfl, .inl ⟨rfl, rfl⟩⟩

theorem two_boxes (w : World) (X Y : Array Value) (T U : TypeId) : Fr (fun _ => False) w ((w.alloc (.cells X T)).alloc (.cells Y U)).drew ∧ (∀ i v, X[i]? = some v → ((w.alloc (.cells X T)).alloc (.cells Y U)).drew.cell? ⟨w.heap.size, i, none⟩ = some v) ∧ (∀ i v, Y[i]? = some v → ((w.alloc (.cells X T)).alloc (.cells Y U)).drew.cell? ⟨w.heap.size + 1, i, none⟩ = some v) ∧ ((w.alloc (.cells X T)).alloc (.cells Y U)).drew.heap.size = w.heap.size + 2 := by
  refine ⟨(((Fr.refl _ _).alloc _).alloc _).drew, fun i v hv => cell_row (c := X) (T := T) ?_ hv, fun i v hv => cell_row (c := Y) (T := U) ?_ hv, by simp⟩
  · exact (heap_alloc_old (w.alloc (.cells X T)) _ (by simp)).trans (heap_alloc_new w _)
  · have e : (w.alloc (.cells X T)).heap.size = w.heap.size + 1 := by simp
    have := heap_alloc_new (w.alloc (.cells X T)) (.cells Y U)
    rw [e] at this
    exact this
theorem alloc_cell {w : World} {b i : Nat} {v : Value} (o : Obj) (h : w.cell? ⟨b, i, none⟩ = some v) : (w.alloc o).cell? ⟨b, i, none⟩ = some v :=
  (World.cell?_of_block (heap_alloc_old w o (World.block_lt_of_cell? w _ h))).trans h

set_option maxRecDepth 20000 in
set_option maxHeartbeats 1000000 in
theorem ways_any (w : World) (fb cb pb : Nat) (so : Option Addr) (np sc : Nat) (fr : Nat → Int) (num : Nat) (p : PR) (q : Hd) (dv tv : Value) (h : Rdy w fb cb pb so np sc fr num p q dv tv) (pc k : Nat) (hpc : pc < p.len) (hl : p.len ≤ 65536) (hop : p.op pc = (k : Int)) (hk : k < 22) :
    Calls Try.prog 42 #[.pointer (some ⟨fb, 0, none⟩), .int .i64 (pc : Int)] w fun e w' => ∃ v, e = .returned v ∧ WaysAt w' w.heap.size v (ways k pc (p.a pc)) ∧ Fr (fun _ => False) w w' := by
  obtain ⟨iN, hiN, hz0, hz1, hz2⟩ := info_parts infoI
  have c4 : w.cell? ⟨fb, 4, none⟩ = some (.slice q.co p.len q.cc) := cell_row h.fo rfl
  have c7 : w.cell? ⟨fb, 7, none⟩ = some (.pointer (some ⟨cb, 0, none⟩)) := cell_row h.fo rfl
  obtain ⟨n0, n1, n2, n3, n4⟩ := h.ch.need hk
  have hfb : fb < w.heap.size := (Array.getElem?_eq_some_iff.1 h.fo).1
  have hcb : cb < w.heap.size := (Array.getElem?_eq_some_iff.1 h.ch.ch).1
  have b1 := h.pb.c1
  have b2 := h.pb.c2
  rcases h.co with e | ⟨g, off, e, hco⟩
  · omega
  rw [e] at c4
  obtain ⟨i0, i1, i2⟩ := hco pc hpc
  rw [hop] at i0
  clear e hco h hop
  unfold ways
  have e7 : nA k = 7 → ((nA k : Int) == 7) = true := fun e => by rw [e]; rfl
  have e7' : nA k ≠ 7 → ((nA k : Int) == 7) = false := fun e => by rw [beq_eq_false_iff_ne]; omega
  generalize p.a pc = a at *
  generalize p.b pc = b at *
  generalize nPop k = PP at *
  generalize nPush k = PU at *
  generalize nEnd k = NE at *
  generalize nA k = A at *
  generalize nB k = BB at *
  by_cases hA : A = 7
  · subst hA
    clear e7 e7'
    cases NE
    · go_enter Try.func42, Try.ntmps42
      go_wp2
      go_region
      obtain ⟨F2, x2, y2, s2⟩ := two_boxes w #[.int .i64 (k : Int), .int .i64 a, .int .i64 b] #[.int .i64 7, .int .i64 (BB : Int), .int .i64 (PP : Int), .int .i64 (PU : Int), .bool false] 47 65
      have m1 := x2 1 _ rfl
      have m2 := y2 0 _ rfl
      have m3 := y2 4 _ rfl
      have HF2 := hide F2
      have hs : w.heap.size + 1 < ((w.alloc (.cells #[.int .i64 (k : Int), .int .i64 a, .int .i64 b] 47)).alloc (.cells #[.int .i64 7, .int .i64 (BB : Int), .int .i64 (PP : Int), .int .i64 (PU : Int), .bool false] 65)).drew.heap.size := by rw [s2]; omega
      clear F2 x2 y2 s2 c4 c7 n0 n1 n2 n3 n4 i0 i1 i2 hfb hcb
      generalize ((w.alloc (.cells #[.int .i64 (k : Int), .int .i64 a, .int .i64 b] 47)).alloc (.cells #[.int .i64 7, .int .i64 (BB : Int), .int .i64 (PP : Int), .int .i64 (PU : Int), .bool false] 65)).drew = W2 at *
      go_wp2_with (first
        | (have hh := m4; clear hh; at_builtin; refine wpList_append_lies _ rfl _ _ 32 rfl w.heap.size 3 iN (.int .i64 0) 1 8 Try.underlying32 hiN hz0 hz1 hz2 rfl (by decide) _ 1 _ rfl (hown3.alloc _) ⟨w3.heap.size, 0, none⟩ 1 1 [.int .i64 (a)] rfl rfl (hcells_one _ _ _) (fun u hu => by simp at hu; subst hu; rfl) (by decide) (by unfold maxLen; omega) (by omega) (by have := HF3.out.size; simp; omega) (w3.heap.size + 1) (by simp) ?_; intro g4 cap4 w4 hown4 hgrow4 hat4 hlt4; have F4 : Fr (fun _ => False) W2 w4 := Fr.trans (S' := fun k => W2.heap.size ≤ k) HF3.out ((((Fr.refl _ w3).alloc _).grow hgrow4 (fun k _ e => HS3.out k e))) (fun x h1 h2 => by omega); have HF4 := hide F4; have HO4 := hide hown4; clear F4 hgrow4 hat4 hlt4 hown4)
        | (at_builtin; refine wpList_append_lies _ rfl _ _ 32 rfl w.heap.size 3 iN (.int .i64 0) 1 8 Try.underlying32 hiN hz0 hz1 hz2 rfl (by decide) _ 0 _ rfl (nil_owns _ _) ⟨W2.heap.size, 0, none⟩ 1 1 [.int .i64 ((pc : Int) + 1)] rfl rfl (hcells_one _ _ _) (fun u hu => by simp at hu; subst hu; rfl) (by decide) (by unfold maxLen; omega) (by omega) (by simp; omega) (W2.heap.size + 1) (by simp) ?_; intro g3 cap3 w3 hown3 hgrow3 hat3 hlt3; have F3 : Fr (fun _ => False) W2 w3 := ((Fr.refl _ W2).alloc _).grow hgrow3 (fun k _ e => by cases e); have m4 := (F3.cell (by omega) (fun e => e)).trans m2; have m5 := (F3.cell (by omega) (fun e => e)).trans m1; have HS3 : Hid (∀ k, (Value.slice (some ⟨g3, 0, none⟩) 1 cap3).ownBlock = some k → W2.heap.size ≤ k) := hide (fun k e => by rcases hat3 with h | h; cases h; have e2 : g3 = k := (by simpa [Value.ownBlock] using e); omega); have HF3 := hide F3; clear F3 hgrow3 hat3 hlt3 m1 m2))
      go_ret
      refine ⟨_, rfl, ?_, HF2.out.trans HF4.out (fun _ _ e => e)⟩
      exact WaysAt.of HO4.out rfl
    · go_enter Try.func42, Try.ntmps42
      go_wp2
      go_region
      obtain ⟨F2, x2, y2, s2⟩ := two_boxes w #[.int .i64 (k : Int), .int .i64 a, .int .i64 b] #[.int .i64 7, .int .i64 (BB : Int), .int .i64 (PP : Int), .int .i64 (PU : Int), .bool true] 47 65
      have m1 := x2 1 _ rfl
      have m2 := y2 0 _ rfl
      have m3 := y2 4 _ rfl
      have HF2 := hide F2
      have hs : w.heap.size + 1 < ((w.alloc (.cells #[.int .i64 (k : Int), .int .i64 a, .int .i64 b] 47)).alloc (.cells #[.int .i64 7, .int .i64 (BB : Int), .int .i64 (PP : Int), .int .i64 (PU : Int), .bool true] 65)).drew.heap.size := by rw [s2]; omega
      clear F2 x2 y2 s2 c4 c7 n0 n1 n2 n3 n4 i0 i1 i2 hfb hcb
      generalize ((w.alloc (.cells #[.int .i64 (k : Int), .int .i64 a, .int .i64 b] 47)).alloc (.cells #[.int .i64 7, .int .i64 (BB : Int), .int .i64 (PP : Int), .int .i64 (PU : Int), .bool true] 65)).drew = W2 at *
      go_wp2_with (at_builtin; refine wpList_append_lies _ rfl _ _ 32 rfl w.heap.size 3 iN (.int .i64 0) 1 8 Try.underlying32 hiN hz0 hz1 hz2 rfl (by decide) _ 0 _ rfl (nil_owns _ _) ⟨W2.heap.size, 0, none⟩ 1 1 [.int .i64 (a)] rfl rfl (hcells_one _ _ _) (fun u hu => by simp at hu; subst hu; rfl) (by decide) (by unfold maxLen; omega) (by omega) (by simp; omega) (W2.heap.size + 1) (by simp) ?_; intro g3 cap3 w3 hown3 hgrow3 hat3 hlt3; have F3 : Fr (fun _ => False) W2 w3 := ((Fr.refl _ W2).alloc _).grow hgrow3 (fun k _ e => by cases e); have HF3 := hide F3; have HO3 := hide hown3; clear F3 hgrow3 hat3 hlt3 hown3)
      go_ret
      refine ⟨_, rfl, ?_, HF2.out.trans HF3.out (fun _ _ e => e)⟩
      exact WaysAt.of HO3.out rfl
  · have hA7 := e7' hA
    have HA := hide hA
    clear e7 e7' hA
    cases NE
    · go_enter Try.func42, Try.ntmps42
      go_wp2
      go_region
      obtain ⟨F2, x2, y2, s2⟩ := two_boxes w #[.int .i64 (k : Int), .int .i64 a, .int .i64 b] #[.int .i64 (A : Int), .int .i64 (BB : Int), .int .i64 (PP : Int), .int .i64 (PU : Int), .bool false] 47 65
      have m1 := x2 1 _ rfl
      have m2 := y2 0 _ rfl
      have m3 := y2 4 _ rfl
      have HF2 := hide F2
      have hs : w.heap.size + 1 < ((w.alloc (.cells #[.int .i64 (k : Int), .int .i64 a, .int .i64 b] 47)).alloc (.cells #[.int .i64 (A : Int), .int .i64 (BB : Int), .int .i64 (PP : Int), .int .i64 (PU : Int), .bool false] 65)).drew.heap.size := by rw [s2]; omega
      clear F2 x2 y2 s2 c4 c7 n0 n1 n2 n3 n4 i0 i1 i2 hfb hcb
      generalize ((w.alloc (.cells #[.int .i64 (k : Int), .int .i64 a, .int .i64 b] 47)).alloc (.cells #[.int .i64 (A : Int), .int .i64 (BB : Int), .int .i64 (PP : Int), .int .i64 (PU : Int), .bool false] 65)).drew = W2 at *
      go_wp2_with (at_builtin; refine wpList_append_lies _ rfl _ _ 32 rfl w.heap.size 3 iN (.int .i64 0) 1 8 Try.underlying32 hiN hz0 hz1 hz2 rfl (by decide) _ 0 _ rfl (nil_owns _ _) ⟨W2.heap.size, 0, none⟩ 1 1 [.int .i64 ((pc : Int) + 1)] rfl rfl (hcells_one _ _ _) (fun u hu => by simp at hu; subst hu; rfl) (by decide) (by unfold maxLen; omega) (by omega) (by simp; omega) (W2.heap.size + 1) (by simp) ?_; intro g3 cap3 w3 hown3 hgrow3 hat3 hlt3; have F3 : Fr (fun _ => False) W2 w3 := ((Fr.refl _ W2).alloc _).grow hgrow3 (fun k _ e => by cases e); have m4 := (F3.cell (by omega) (fun e => e)).trans m2; have HF3 := hide F3; have HO3 := hide hown3; clear F3 hgrow3 hat3 hlt3 hown3)
      go_ret
      refine ⟨_, rfl, ?_, HF2.out.trans HF3.out (fun _ _ e => e)⟩
      simp only 
      exact WaysAt.of HO3.out rfl
    · go_enter Try.func42, Try.ntmps42
      go_wp2
      go_region
      go_wp2
      go_ret
      refine ⟨_, rfl, ?_, (by repeat (first | exact Fr.refl _ _ | apply Fr.alloc | apply Fr.drew | apply Fr.drewN))⟩
      simp 
      exact WaysAt.of (nil_owns _ _) rfl

end Go.Proofs.Ytmogglmofbbjlaa
