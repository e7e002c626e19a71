/-
  What is proved here: package value's Keep: a collection with some roots and all symbols, which stay interned.
-/
import Derived.Laws.CopyOwn
import Derived.Test.YtchdfenickjiiaaVConc2
import Derived.Test.YtchdfenickjiiaaYA
import Derived.Test.YtchdfenickjiiaaYG
import Derived.Test.YtchdfenickjiiaaVSym
namespace Go.Proofs.Ytchdfenickjiiaa
open Go Go.RowKit

theorem infoW1 : (Try.prog.info? 22).map (·.size) = some 1 := by kernel_rfl
/-- copy of m words over a row of m words, at a step of a region. -/
theorem step_copy_words {ops : Array Oper} {o : Oper} {a : Act} {w : World} {K : Act → World → Prop} {Q : Exit → Act → World → Prop} {E : Prop} (hgd : o.guard = none) (d s : Operand) (ho : o.op = .call { callee := .builtin .copy, args := #[d, s], argTypes := #[35, 35] })
    (g cap m : Nat) (f : Nat → Nat) (row : RowAt .u64 22 w g cap m f) (b off c : Nat) (r : Nat → Nat) (hd : a.eval d = .slice (some ⟨g, 0, none⟩) m cap) (hs : a.eval s = .slice (some ⟨b, off, none⟩) m c) (hr : ∀ i, i < m → w.cell? ⟨b, off + i, none⟩ = some (.int .u64 (r i)))
    (h : ∀ w', RowAt .u64 22 w' g cap m r → Fr (fun k => k = g) w w' → K (a.put o.dst (goInt m)) w') :
    if Region.wanted o (yielded ops a.tmps) = true then Oper.wp Try.prog o a w K Q else E := by
  have hw : Region.wanted o (yielded ops a.tmps) = true := by simp [Region.wanted, hgd]
  rw [if_pos hw]
  obtain ⟨cur, e1, e2, e3, e4⟩ := row
  have hlen : (cellsOf .u64 r m).length = Nat.min m m := by rw [cellsOf_length]; exact (Nat.min_self m).symm
  have hrun := run_copy_row (P := Try.prog) w 35 35 o.type 22 g 0 m cap ⟨b, off, none⟩ m c cur 22 (cellsOf .u64 r m) Try.underlying35 infoW1 e1 hlen (hcells_at hr) (by rw [cellsOf_length]; omega) (cellsOf_one _ _ _)
  unfold Oper.wp
  simp only [execOp, ho, resolve, invoke, builtin, Sem.run_bind, Sem.run_pure, Result.andThen_ok, List.map_toArray, List.map_cons, List.map_nil, hd, hs, hrun]
  rw [cellsOf_length]
  refine h _ ⟨_, setRow_heap w g cur _ 22 _ e1, ?_, e3, fun i hi => ?_⟩ ⟨rfl, rfl, rfl, by simp [World.setRow], fun k _ hk => setRow_other w g k _ hk⟩
  · simp [cellsOf_length]
    omega
  · simp only [List.getElem?_toArray]
    rw [List.take_zero, List.nil_append, List.getElem?_append_left (by rw [cellsOf_length]; exact hi), cellsOf_get _ _ _ _ hi]

/-- Collect of one list behind another: each word as it is behind the collection. -/
theorem collect_keep (w : World) (hb : Nat) (X : Nat → Prop) (sz : Nat) (tm : Int) (n : Nat) (f : Nat → Nat) (st : Nat → Bool) (g L cap : Nat) (r : Nat → Nat) (h : HeapAt w hb X sz tm n f st) (htm1 : 0 ≤ tm) (htm2 : tm ≤ 4611686018427387904) (row : RowAt .u64 22 w g cap L r) (hg : ¬ X g) (hrl : ∀ k, k < L → r k < 18446744073709551616) (hL : L ≤ 1000000) (hcap2 : cap ≤ 9223372036854775807) :
    Calls Try.prog 55 #[.pointer (some ⟨hb, 0, none⟩), .slice (some ⟨g, 0, none⟩) L cap] w fun e w' => ∃ gm X2, e = .returned (.slice (some ⟨gm, 0, none⟩) L L) ∧ w.heap.size ≤ gm ∧ RowAt .u64 22 w' gm L L (fun k => mvF st (collS n f st r L) (r k)) ∧ ¬ X2 gm ∧ HeapAt w' hb X2 sz (tm + 1) (collS n f st r L).n (collS n f st r L).f (collS n f st r L).st ∧ Grows w.heap.size X X2 ∧ Fr X w w' := by
  have hgd := h.good
  obtain ⟨_, _, c3⟩ := coll_gr (R := fun _ => True) hgd.1 hgd.2.1 (by omega) (fun _ _ _ _ _ _ _ => trivial) r L (fun _ _ _ => trivial)
  refine (collect_any w hb X sz tm n f st (some ⟨g, 0, none⟩) L cap r h htm1 htm2 (.inr ⟨g, 0, rfl, row.lt, hg, fun k hk => by rw [Nat.zero_add]; exact row.cell hk⟩) hrl (by omega) row.le hcap2).mono fun e w' he => ?_
  obtain ⟨gm, X2, e1, e2, e3, e4⟩ := he
  exact ⟨gm, X2, e1, e2, e3.congr (fun k hk => (c3 k hk).2), e4⟩

/-- What stands while Keep works: the store's own block; the words. -/
structure Kp (w W : World) (sb hb : Nat) (X : Nat → Prop) (gv cv m : Nat) (sw : Nat → Nat) (mb : Nat) (tm : Int) (D : DataW Unit) : Prop where
  blk : W.heap[sb]? = some (.cells #[.pointer (some ⟨hb, 0, none⟩), .slice (some ⟨gv, 0, none⟩) m cv, .map (some mb), .int .i64 tm] 52 (0, 0))
  row : RowAt .u64 22 W gv cv m sw
  map : W.ownsMap Try.prog 9 (plainElem Try.prog 3) mb m D
  F : Fr (storeX sb X (.slice (some ⟨gv, 0, none⟩) m cv) mb) w W
theorem Kp.cells {w W : World} {sb hb : Nat} {X : Nat → Prop} {gv cv m : Nat} {sw : Nat → Nat} {mb : Nat} {tm : Int} {D : DataW Unit} (h : Kp w W sb hb X gv cv m sw mb tm D) : W.cell? ⟨sb, 0, none⟩ = some (.pointer (some ⟨hb, 0, none⟩)) ∧ W.cell? ⟨sb, 1, none⟩ = some (.slice (some ⟨gv, 0, none⟩) m cv) ∧ W.cell? ⟨sb, 3, none⟩ = some (.int .i64 tm) ∧ W.frozen? ⟨sb, 3, none⟩ = false :=
  ⟨cell_of_row W sb 0 _ _ _ h.blk, cell_of_row W sb 1 _ _ _ h.blk, cell_of_row W sb 3 _ _ _ h.blk, frozen_of_row W sb 3 _ _ h.blk⟩
/-- What turns neither the store's block, nor the words, nor the map. -/
theorem Kp.fr {w W W' : World} {sb hb : Nat} {X Y : Nat → Prop} {gv cv m : Nat} {sw : Nat → Nat} {mb : Nat} {tm : Int} {D : DataW Unit} (h : Kp w W sb hb X gv cv m sw mb tm D) (F : Fr Y W W') (hs : ¬ Y sb) (hg : ¬ Y gv) (hm : ¬ Y mb) (hY : ∀ k, k < w.heap.size → Y k → X k) : Kp w W' sb hb X gv cv m sw mb tm D := by
  obtain ⟨es, c, h1, h2⟩ := id h.map
  exact ⟨(F.block sb (Array.getElem?_eq_some_iff.1 h.blk).1 hs).trans h.blk, h.row.block (F.block gv h.row.lt hg), ownsMap_block h.map (F.block mb (Array.getElem?_eq_some_iff.1 h1).1 hm), Fr.trans h.F F (fun k hk e => .inl (hY k hk e))⟩

end Go.Proofs.Ytchdfenickjiiaa
