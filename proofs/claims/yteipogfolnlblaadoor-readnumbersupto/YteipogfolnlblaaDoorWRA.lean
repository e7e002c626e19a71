/-
  What is proved here: package read's pieces and reader in memory; take, made, fault.
-/
import Derived.Test.YteipogfolnlblaaDoorWQC
import Derived.Lib.Bytealg
import Derived.Lib.Walk
namespace Go.Proofs.YteipogfolnlblaaDoor
open Go Go.RowKit
/-- Nothing but the block g has turned. -/
def Kr (g : Nat) (w w' : World) : Prop := Below 0 w w' ∧ ∀ k, k < w.heap.size → k ≠ g → w'.heap[k]? = w.heap[k]?

theorem Kr.refl (g : Nat) (w : World) : Kr g w w := ⟨Below.refl _ _, fun _ _ _ => rfl⟩

theorem Kr.tr {g : Nat} {a b c : World} (h : Kr g a b) (k : Kr g b c) : Kr g a c := ⟨h.1.trans k.1, fun i hi hg => (k.2 i (Nat.lt_of_lt_of_le hi h.1.size) hg).trans (h.2 i hi hg)⟩

theorem Kr.setCell {g : Nat} {a b : World} (h : Kr g a b) (i : Nat) (v : Value) : Kr g a (b.setCell ⟨g, i, none⟩ v) :=
  ⟨h.1.setCell (p := ⟨g, i, none⟩) (Nat.zero_le _) v, fun k hk hg => (heap_setCell_other _ _ _ _ hg).trans (h.2 k hk hg)⟩

theorem Kr.of_up {g : Nat} {a b : World} (u : Up a b) : Kr g a b := ⟨Below.mono u (Nat.zero_le _), fun k hk _ => u.block k hk⟩

/-- What is new may turn. -/
theorem Kr.join {g g' : Nat} {a b c d : World} (u : Up a b) (h : Kr g b c) (k : Kr g' c d) (hg : a.heap.size ≤ g') : Kr g a d :=
  ⟨((Below.mono u (Nat.zero_le _)).trans h.1).trans k.1, fun i hi hne => by
    have l1 : i < b.heap.size := Nat.lt_of_lt_of_le hi u.size
    exact (k.2 i (Nat.lt_of_lt_of_le l1 h.1.size) (Nat.ne_of_lt (Nat.lt_of_lt_of_le hi hg))).trans ((h.2 i l1 hne).trans (u.block i hi))⟩

theorem Kr.up {g : Nat} {w0 w w' : World} (h : Kr g w w') (u : Up w0 w) (hg : w0.heap.size ≤ g) : Up w0 w' :=
  ⟨h.1.os.trans u.os, h.1.tape.trans u.tape, h.1.output.trans u.output, Nat.le_trans u.size h.1.size, fun k hk => (h.2 k (Nat.lt_of_lt_of_le hk u.size) (Nat.ne_of_lt (Nat.lt_of_lt_of_le hk hg))).trans (u.block k hk)⟩

theorem Kr.old {g k : Nat} {w w' : World} {o : Obj} (h : Kr g w w') (hk : k ≠ g) (ho : w.heap[k]? = some o) : w'.heap[k]? = some o :=
  (h.2 k (Array.getElem?_eq_some_iff.1 ho).1 hk).trans ho

theorem sto11 {w1 : World} {g : Nat} {c0 c1 c2 c3 c4 c5 c6 c7 c8 c9 c10 : Value} {E : TypeId} (h : w1.heap[g]? = some (.cells #[c0, c1, c2, c3, c4, c5, c6, c7, c8, c9, c10] E (0, 0))) (v0 v1 v2 v3 v4 v5 v6 v7 v8 v9 v10 : Value) :
    (((((((((((w1.setCell ⟨g, 0, none⟩ v0).setCell ⟨g, 1, none⟩ v1).setCell ⟨g, 2, none⟩ v2).setCell ⟨g, 3, none⟩ v3).setCell ⟨g, 4, none⟩ v4).setCell ⟨g, 5, none⟩ v5).setCell ⟨g, 6, none⟩ v6).setCell ⟨g, 7, none⟩ v7).setCell ⟨g, 8, none⟩ v8).setCell ⟨g, 9, none⟩ v9).setCell ⟨g, 10, none⟩ v10).heap[g]? = some (.cells #[v0, v1, v2, v3, v4, v5, v6, v7, v8, v9, v10] E (0, 0)) ∧ Kr g w1 (((((((((((w1.setCell ⟨g, 0, none⟩ v0).setCell ⟨g, 1, none⟩ v1).setCell ⟨g, 2, none⟩ v2).setCell ⟨g, 3, none⟩ v3).setCell ⟨g, 4, none⟩ v4).setCell ⟨g, 5, none⟩ v5).setCell ⟨g, 6, none⟩ v6).setCell ⟨g, 7, none⟩ v7).setCell ⟨g, 8, none⟩ v8).setCell ⟨g, 9, none⟩ v9).setCell ⟨g, 10, none⟩ v10) := by
  have f0 := Kr.refl g w1
  have s0 : (#[c0, c1, c2, c3, c4, c5, c6, c7, c8, c9, c10] : Array Value).setIfInBounds 0 v0 = #[v0, c1, c2, c3, c4, c5, c6, c7, c8, c9, c10] := rfl
  have s1 : (#[v0, c1, c2, c3, c4, c5, c6, c7, c8, c9, c10] : Array Value).setIfInBounds 1 v1 = #[v0, v1, c2, c3, c4, c5, c6, c7, c8, c9, c10] := rfl
  have s2 : (#[v0, v1, c2, c3, c4, c5, c6, c7, c8, c9, c10] : Array Value).setIfInBounds 2 v2 = #[v0, v1, v2, c3, c4, c5, c6, c7, c8, c9, c10] := rfl
  have s3 : (#[v0, v1, v2, c3, c4, c5, c6, c7, c8, c9, c10] : Array Value).setIfInBounds 3 v3 = #[v0, v1, v2, v3, c4, c5, c6, c7, c8, c9, c10] := rfl
  have s4 : (#[v0, v1, v2, v3, c4, c5, c6, c7, c8, c9, c10] : Array Value).setIfInBounds 4 v4 = #[v0, v1, v2, v3, v4, c5, c6, c7, c8, c9, c10] := rfl
  have s5 : (#[v0, v1, v2, v3, v4, c5, c6, c7, c8, c9, c10] : Array Value).setIfInBounds 5 v5 = #[v0, v1, v2, v3, v4, v5, c6, c7, c8, c9, c10] := rfl
  have s6 : (#[v0, v1, v2, v3, v4, v5, c6, c7, c8, c9, c10] : Array Value).setIfInBounds 6 v6 = #[v0, v1, v2, v3, v4, v5, v6, c7, c8, c9, c10] := rfl
  have s7 : (#[v0, v1, v2, v3, v4, v5, v6, c7, c8, c9, c10] : Array Value).setIfInBounds 7 v7 = #[v0, v1, v2, v3, v4, v5, v6, v7, c8, c9, c10] := rfl
  have s8 : (#[v0, v1, v2, v3, v4, v5, v6, v7, c8, c9, c10] : Array Value).setIfInBounds 8 v8 = #[v0, v1, v2, v3, v4, v5, v6, v7, v8, c9, c10] := rfl
  have s9 : (#[v0, v1, v2, v3, v4, v5, v6, v7, v8, c9, c10] : Array Value).setIfInBounds 9 v9 = #[v0, v1, v2, v3, v4, v5, v6, v7, v8, v9, c10] := rfl
  have s10 : (#[v0, v1, v2, v3, v4, v5, v6, v7, v8, v9, c10] : Array Value).setIfInBounds 10 v10 = #[v0, v1, v2, v3, v4, v5, v6, v7, v8, v9, v10] := rfl
  have h1 := heap_setCell_same w1 g 0 _ E v0 h
  rw [s0] at h1
  have f1 := f0.setCell 0 v0
  generalize w1.setCell ⟨g, 0, none⟩ v0 = wa at *
  have h2 := heap_setCell_same wa g 1 _ E v1 h1
  rw [s1] at h2
  have f2 := f1.setCell 1 v1
  generalize wa.setCell ⟨g, 1, none⟩ v1 = wb at *
  have h3 := heap_setCell_same wb g 2 _ E v2 h2
  rw [s2] at h3
  have f3 := f2.setCell 2 v2
  generalize wb.setCell ⟨g, 2, none⟩ v2 = wc at *
  have h4 := heap_setCell_same wc g 3 _ E v3 h3
  rw [s3] at h4
  have f4 := f3.setCell 3 v3
  generalize wc.setCell ⟨g, 3, none⟩ v3 = wd at *
  have h5 := heap_setCell_same wd g 4 _ E v4 h4
  rw [s4] at h5
  have f5 := f4.setCell 4 v4
  generalize wd.setCell ⟨g, 4, none⟩ v4 = we at *
  have h6 := heap_setCell_same we g 5 _ E v5 h5
  rw [s5] at h6
  have f6 := f5.setCell 5 v5
  generalize we.setCell ⟨g, 5, none⟩ v5 = wf at *
  have h7 := heap_setCell_same wf g 6 _ E v6 h6
  rw [s6] at h7
  have f7 := f6.setCell 6 v6
  generalize wf.setCell ⟨g, 6, none⟩ v6 = wh at *
  have h8 := heap_setCell_same wh g 7 _ E v7 h7
  rw [s7] at h8
  have f8 := f7.setCell 7 v7
  generalize wh.setCell ⟨g, 7, none⟩ v7 = wi at *
  have h9 := heap_setCell_same wi g 8 _ E v8 h8
  rw [s8] at h9
  have f9 := f8.setCell 8 v8
  generalize wi.setCell ⟨g, 8, none⟩ v8 = wj at *
  have h10 := heap_setCell_same wj g 9 _ E v9 h9
  rw [s9] at h10
  have f10 := f9.setCell 9 v9
  generalize wj.setCell ⟨g, 9, none⟩ v9 = wk at *
  have h11 := heap_setCell_same wk g 10 _ E v10 h10
  rw [s10] at h11
  have f11 := f10.setCell 10 v10
  exact ⟨h11, f11⟩

theorem cells11 {w1 : World} {g : Nat} {c0 c1 c2 c3 c4 c5 c6 c7 c8 c9 c10 : Value} {E : TypeId} {f : Nat × Nat} (h : w1.heap[g]? = some (.cells #[c0, c1, c2, c3, c4, c5, c6, c7, c8, c9, c10] E f)) : w1.cell? ⟨g, 0, none⟩ = some c0 ∧ w1.cell? ⟨g, 1, none⟩ = some c1 ∧ w1.cell? ⟨g, 2, none⟩ = some c2 ∧ w1.cell? ⟨g, 3, none⟩ = some c3 ∧ w1.cell? ⟨g, 4, none⟩ = some c4 ∧ w1.cell? ⟨g, 5, none⟩ = some c5 ∧ w1.cell? ⟨g, 6, none⟩ = some c6 ∧ w1.cell? ⟨g, 7, none⟩ = some c7 ∧ w1.cell? ⟨g, 8, none⟩ = some c8 ∧ w1.cell? ⟨g, 9, none⟩ = some c9 ∧ w1.cell? ⟨g, 10, none⟩ = some c10 :=
  ⟨cell_of_row w1 g 0 _ E f h, cell_of_row w1 g 1 _ E f h, cell_of_row w1 g 2 _ E f h, cell_of_row w1 g 3 _ E f h, cell_of_row w1 g 4 _ E f h, cell_of_row w1 g 5 _ E f h, cell_of_row w1 g 6 _ E f h, cell_of_row w1 g 7 _ E f h, cell_of_row w1 g 8 _ E f h, cell_of_row w1 g 9 _ E f h, cell_of_row w1 g 10 _ E f h⟩

theorem frozen11 {w1 : World} {g : Nat} {c0 c1 c2 c3 c4 c5 c6 c7 c8 c9 c10 : Value} {E : TypeId} (h : w1.heap[g]? = some (.cells #[c0, c1, c2, c3, c4, c5, c6, c7, c8, c9, c10] E (0, 0))) : w1.frozen? ⟨g, 0, none⟩ = false ∧ w1.frozen? ⟨g, 1, none⟩ = false ∧ w1.frozen? ⟨g, 2, none⟩ = false ∧ w1.frozen? ⟨g, 3, none⟩ = false ∧ w1.frozen? ⟨g, 4, none⟩ = false ∧ w1.frozen? ⟨g, 5, none⟩ = false ∧ w1.frozen? ⟨g, 6, none⟩ = false ∧ w1.frozen? ⟨g, 7, none⟩ = false ∧ w1.frozen? ⟨g, 8, none⟩ = false ∧ w1.frozen? ⟨g, 9, none⟩ = false ∧ w1.frozen? ⟨g, 10, none⟩ = false :=
  ⟨frozen_of_row w1 g 0 _ E h, frozen_of_row w1 g 1 _ E h, frozen_of_row w1 g 2 _ E h, frozen_of_row w1 g 3 _ E h, frozen_of_row w1 g 4 _ E h, frozen_of_row w1 g 5 _ E h, frozen_of_row w1 g 6 _ E h, frozen_of_row w1 g 7 _ E h, frozen_of_row w1 g 8 _ E h, frozen_of_row w1 g 9 _ E h, frozen_of_row w1 g 10 _ E h⟩

/-- A piece of a text. -/
def pcV (a b k : Int) (c0 c1 c2 c3 c4 c5 c6 : Value) (e : Int) : Value := .agg #[.int .i64 a, .int .i64 b, .int .i64 k, c0, c1, c2, c3, c4, c5, c6, .int .i64 e]

def pc0 (a b k : Int) : Value := pcV a b k (.int .i64 0) (.int .i64 0) (.bool false) (.slice none 0 0) (.string ⟨#[]⟩) (.slice none 0 0) (.slice none 0 0) 0

def zer11 : Obj := .cells #[.int .i64 0, .int .i64 0, .int .i64 0, .int .i64 0, .int .i64 0, .bool false, .slice none 0 0, .string ⟨#[]⟩, .slice none 0 0, .slice none 0 0, .int .i64 0] 50

/-- A reader at a byte, so deep. -/
structure RS (w0 : World) (rb : Nat) (t : ByteArray) (a d : Nat) (w : World) : Prop where
  up : Up w0 w
  ge : w0.heap.size ≤ rb
  cs : w.heap[rb]? = some (.cells #[.string t, .int .i64 a, .int .i64 d] 46 (0, 0))

theorem RS.lt {w0 : World} {rb : Nat} {t : ByteArray} {a d : Nat} {w : World} (h : RS w0 rb t a d w) : rb < w.heap.size := (Array.getElem?_eq_some_iff.1 h.cs).1

set_option maxHeartbeats 2000000 in
set_option maxRecDepth 100000 in
theorem take_any (w0 : World) (rb : Nat) (t : ByteArray) (a d n : Nat) (k : Int) (w : World) (h : RS w0 rb t a d w) (ha : a + n ≤ 9223372036854775807) :
    Calls Tryd.prog 40 #[.pointer (some ⟨rb, 0, none⟩), .int .i64 k, .int .i64 (n : Int)] w fun e w' => e = .returned (pc0 a ((a + n : Nat) : Int) k) ∧ RS w0 rb t (a + n) d w' ∧ Kr rb w w' := by
  have hlt := h.lt
  obtain ⟨h1, h2, h3⟩ := h
  have gA : (w.alloc zer11).heap[w.heap.size]? = some zer11 := heap_alloc_new w zer11
  obtain ⟨W1, hW1⟩ : ∃ W1, W1 = w.alloc zer11 := ⟨_, rfl⟩
  rw [← hW1] at gA
  have uA : Up w W1 := by rw [hW1]; exact up_alloc w _
  have b1 : W1.heap[rb]? = some (.cells #[.string t, .int .i64 a, .int .i64 d] 46 (0, 0)) := (uA.block rb hlt).trans h3
  have c1 : W1.cell? ⟨rb, 1, none⟩ = some (.int .i64 a) := cell_of_row W1 rb 1 _ _ _ b1
  have z1 : W1.frozen? ⟨rb, 1, none⟩ = false := frozen_of_row W1 rb 1 _ _ b1
  have b2 := heap_setCell_same W1 rb 1 _ _ (.int .i64 ((a : Int) + (n : Int))) b1
  have g2 : (W1.setCell ⟨rb, 1, none⟩ (.int .i64 ((a : Int) + (n : Int)))).heap[w.heap.size]? = some zer11 := (heap_setCell_other _ _ _ _ (Nat.ne_of_gt hlt)).trans gA
  have k2 : Kr rb W1 (W1.setCell ⟨rb, 1, none⟩ (.int .i64 ((a : Int) + (n : Int)))) := (Kr.refl rb W1).setCell _ _
  obtain ⟨W2, hW2⟩ : ∃ W2, W2 = W1.setCell ⟨rb, 1, none⟩ (.int .i64 ((a : Int) + (n : Int))) := ⟨_, rfl⟩
  rw [← hW2] at b2 g2 k2
  have c2 : W2.cell? ⟨rb, 1, none⟩ = some (.int .i64 ((a : Int) + (n : Int))) := cell_of_row W2 rb 1 _ _ _ b2
  obtain ⟨f0, f1, f2, f3, f4, f5, f6, f7, f8, f9, f10⟩ := frozen11 g2
  obtain ⟨d0, d1, d2, d3, d4, d5, d6, d7, d8, d9, d10⟩ := cells11 g2
  have hI : (a : Int) + (n : Int) ≤ 9223372036854775807 := by omega
  have HG := hide (And.intro gA (And.intro g2 (And.intro k2 (And.intro b2 (And.intro uA (And.intro h1 (And.intro h2 hlt)))))))
  have HW1 := hide hW1
  have HW2 := hide hW2
  rw [hW2] at c2 f0 f1 f2 f3 f4 f5 f6 f7 f8 f9 f10 d0 d1 d2 d3 d4 d5 d6 d7 d8 d9 d10
  rw [hW1] at c2 c1 z1 f0 f1 f2 f3 f4 f5 f6 f7 f8 f9 f10 d0 d1 d2 d3 d4 d5 d6 d7 d8 d9 d10
  unfold zer11 at c2 c1 z1 f0 f1 f2 f3 f4 f5 f6 f7 f8 f9 f10 d0 d1 d2 d3 d4 d5 d6 d7 d8 d9 d10
  clear hW1 hW2 gA g2 k2 b1 b2 uA h1 h2 h3 hlt
  go_enter Tryd.func40, Tryd.ntmps40
  go_wp2
  obtain ⟨gA, g2, k2, b2, uA, h1, h2, hlt⟩ := HG.out
  obtain ⟨q1, q2⟩ := sto11 g2 (.int .i64 a) (.int .i64 ((a : Int) + (n : Int))) (.int .i64 k) (.int .i64 0) (.int .i64 0) (.bool false) (.slice none 0 0) (.string ⟨#[]⟩) (.slice none 0 0) (.slice none 0 0) (.int .i64 0)
  have e1 := HW1.out
  unfold zer11 at e1
  rw [← e1, ← HW2.out]
  clear c2 c1 z1 f0 f1 f2 f3 f4 f5 f6 f7 f8 f9 f10 d0 d1 d2 d3 d4 d5 d6 d7 d8 d9 d10
  generalize (((((((((((W2.setCell ⟨w.heap.size, 0, none⟩ (.int .i64 a)).setCell ⟨w.heap.size, 1, none⟩ (.int .i64 ((a : Int) + (n : Int)))).setCell ⟨w.heap.size, 2, none⟩ (.int .i64 k)).setCell ⟨w.heap.size, 3, none⟩ (.int .i64 0)).setCell ⟨w.heap.size, 4, none⟩ (.int .i64 0)).setCell ⟨w.heap.size, 5, none⟩ (.bool false)).setCell ⟨w.heap.size, 6, none⟩ (.slice none 0 0)).setCell ⟨w.heap.size, 7, none⟩ (.string ⟨#[]⟩)).setCell ⟨w.heap.size, 8, none⟩ (.slice none 0 0)).setCell ⟨w.heap.size, 9, none⟩ (.slice none 0 0)).setCell ⟨w.heap.size, 10, none⟩ (.int .i64 0)) = W3 at *
  obtain ⟨d0, d1, d2, d3, d4, d5, d6, d7, d8, d9, d10⟩ := cells11 q1
  refine bodyPost_ret (by simp [results, Tryd.results40, go_sem, d0, d1, d2, d3, d4, d5, d6, d7, d8, d9, d10]; rfl) rfl ?_
  have b3 := q2.old (Nat.ne_of_lt hlt) b2
  have kk := Kr.join uA k2 q2 (Nat.le_refl _)
  refine ⟨by simp [pc0, pcV], ⟨kk.up h1 h2, h2, ?_⟩, kk⟩
  rw [b3]; simp

end Go.Proofs.YteipogfolnlblaaDoor
