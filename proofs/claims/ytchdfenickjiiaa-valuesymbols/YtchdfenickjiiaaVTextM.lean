/-
  What is proved here: the words of a text, and what the loop of Text keeps; no walk.
-/
import Derived.Test.YtchdfenickjiiaaVRound
import Derived.Test.YtchdfenickjiiaaVChunk
import Derived.Test.YtchdfenickjiiaaVLay
namespace Go.Proofs.Ytchdfenickjiiaa
open Go Go.RowKit

theorem tagF_congr {f : Nat → Nat} {n h : Nat} {r r' : Nat → Nat} {j : Nat} (e : ∀ i, i < j → r i = r' i) : tagF f n h r j = tagF f n h r' j := by
  funext i
  unfold tagF
  by_cases c : n + 1 ≤ i ∧ i < n + 1 + j
  · rw [if_pos c, if_pos c, e _ (by omega)]
  · rw [if_neg c, if_neg c]

/-- Word x of a text of these len bytes. -/
def wordOf (g : Nat → Nat) (len x : Nat) : Nat := num 256 (fun i => g (8 * x + i)) (clen len x)
/-- A text's raw words: its length, then its bytes, eight a word. -/
def textW (g : Nat → Nat) (len : Nat) : Nat → Nat := fun j => if j = 0 then len else wordOf g len (j - 1)
/-- .. as far as these chunks have come. -/
def txtR (g : Nat → Nat) (len : Nat) (pre : List Nat) : Nat → Nat := fun j => if j = 0 then len else wordOf g len (pre.getD (j - 1) 0)

theorem wordOf_lt {g : Nat → Nat} {len x : Nat} (hg : ∀ i, i < len → g i < 256) : wordOf g len x < 18446744073709551616 := by
  have h1 : num 256 (fun i => g (8 * x + i)) (clen len x) < 256 ^ (clen len x) := num_lt fun i hi => hg _ (by unfold clen at hi; omega)
  have h2 : 256 ^ (clen len x) ≤ 256 ^ 8 := Nat.pow_le_pow_right (by decide) (by unfold clen; omega)
  have h3 : 256 ^ 8 = 18446744073709551616 := by decide
  unfold wordOf
  omega
theorem txtR_old {g : Nat → Nat} {len : Nat} {pre : List Nat} {x j : Nat} (hj : j < 1 + pre.length) : txtR g len (pre ++ [x]) j = txtR g len pre j := by
  unfold txtR
  by_cases e : j = 0
  · rw [if_pos e, if_pos e]
  · rw [if_neg e, if_neg e]
    congr 1
    simp [List.getElem?_append_left (show j - 1 < pre.length by omega)]
theorem txtR_new {g : Nat → Nat} {len : Nat} {pre : List Nat} {x : Nat} : txtR g len (pre ++ [x]) (1 + pre.length) = wordOf g len x := by
  unfold txtR
  rw [if_neg (by omega)]
  congr 1
  simp
theorem txtR_upto {g : Nat → Nat} {len K j : Nat} (hj : j < 1 + K) : txtR g len (upto K) j = textW g len j := by
  unfold txtR textW
  by_cases e : j = 0
  · rw [if_pos e, if_pos e]
  · rw [if_neg e, if_neg e]
    congr 1
    unfold upto
    rw [List.getD_eq_getElem?_getD, List.getElem?_range (by omega)]
    rfl
theorem txtR_step (f : Nat → Nat) (n h : Nat) (g : Nat → Nat) (len : Nat) (pre : List Nat) (x : Nat) : upd (tagF f n h (txtR g len pre) (1 + pre.length)) (n + 1 + (1 + pre.length)) (wordOf g len x) = tagF f n h (txtR g len (pre ++ [x])) (1 + (pre ++ [x]).length) := by
  rw [tagF_congr (r' := txtR g len (pre ++ [x])) (fun i hi => (txtR_old hi).symm), ← txtR_new (pre := pre), tagF_succ]
  congr 1
  simp
  omega

/-- What the loop of Text keeps: the heap; what lay ahead of the loop; the variable i. -/
structure TxI (w3 : World) (hb : Nat) (X2 : Nat → Prop) (sz : Nat) (tm : Int) (n2 : Nat) (f2 : Nat → Nat) (st2 : Nat → Bool) (k : Nat) (W : World) : Prop where
  H : HeapAt W hb X2 sz tm n2 f2 st2
  F : Fr X2 w3 W
  lt : ∀ k, X2 k → k < w3.heap.size
  bi : W.heap[w3.heap.size]? = some (.cells #[.int .i64 (k : Int)] 3 (0, 0))
  big : w3.heap.size + 3 ≤ W.heap.size

theorem TxI.grown {w3 : World} {hb : Nat} {X2 : Nat → Prop} {sz : Nat} {tm : Int} {n2 : Nat} {f2 : Nat → Nat} {st2 : Nat → Bool} {k : Nat} {W W' : World} (h : TxI w3 hb X2 sz tm n2 f2 st2 k W) {row : Option Nat} (hg : W.grownBy W' row) {B : Nat} (hB : w3.heap.size + 3 ≤ B) (hr : ∀ r, row = some r → B ≤ r ∧ ∃ o : Obj, W.heap[r]? = some o ∧ o.isCells = false) : TxI w3 hb X2 sz tm n2 f2 st2 k W' :=
  ⟨h.H.grown hg (fun r e => (hr r e).2), h.F.grow hg (fun k hk e => by have := (hr k e).1; omega), h.lt, (hg.block _ (by have := h.big; omega) (fun e => by have := (hr _ e.symm).1; omega)).trans h.bi, Nat.le_trans h.big hg.size⟩
theorem TxI.turn {w3 : World} {hb : Nat} {X2 : Nat → Prop} {sz : Nat} {tm : Int} {n2 : Nat} {f2 f3 : Nat → Nat} {st2 : Nat → Bool} {k : Nat} {W w5 : World} (h : TxI w3 hb X2 sz tm n2 f2 st2 k W) (H5 : HeapAt w5 hb X2 sz tm n2 f3 st2) (F5 : Fr X2 W.drew w5) : TxI w3 hb X2 sz tm n2 f3 st2 k w5 :=
  ⟨H5, Fr.trans h.F.drew F5 (fun _ _ e => e), h.lt, (F5.block _ (by have := h.big; show w3.heap.size < W.heap.size; omega) (fun e => by have := h.lt _ e; omega)).trans h.bi, Nat.le_trans h.big F5.size⟩
theorem TxI.store {w3 : World} {hb : Nat} {X2 : Nat → Prop} {sz : Nat} {tm : Int} {n2 : Nat} {f2 : Nat → Nat} {st2 : Nat → Bool} {k : Nat} {W : World} (h : TxI w3 hb X2 sz tm n2 f2 st2 k W) (k' : Nat) : TxI w3 hb X2 sz tm n2 f2 st2 k' (W.setCell ⟨w3.heap.size, 0, none⟩ (.int .i64 (k' : Int))) := by
  have F1 : Fr (fun j => j = w3.heap.size) W (W.setCell ⟨w3.heap.size, 0, none⟩ (.int .i64 (k' : Int))) := Fr.setCell (S := fun j => j = w3.heap.size) (Fr.refl _ _) (fun _ => rfl) _ _
  refine ⟨h.H.fr F1 (fun j hj e => by have := h.lt j hj; omega), Fr.trans h.F F1 (fun j hj e => by omega), h.lt, heap_setCell_same W _ 0 _ _ _ h.bi, by have := h.big; have := F1.size; omega⟩
theorem TxI.keep {w3 : World} {hb : Nat} {X2 : Nat → Prop} {sz : Nat} {tm : Int} {n2 : Nat} {f2 : Nat → Nat} {st2 : Nat → Bool} {k : Nat} {W w5 : World} (h : TxI w3 hb X2 sz tm n2 f2 st2 k W) (F5 : Fr X2 W.drew w5) (v : Value) : KeepsOthers W (w5.setCell ⟨w3.heap.size, 0, none⟩ v) ∧ KeepB (w3.heap.size + 1) (w3.heap.size + 1 + 1) W (w5.setCell ⟨w3.heap.size, 0, none⟩ v) := by
  have F1 : Fr (fun j => j = w3.heap.size) w5 (w5.setCell ⟨w3.heap.size, 0, none⟩ v) := Fr.setCell (S := fun j => j = w3.heap.size) (Fr.refl _ _) (fun _ => rfl) _ _
  have F0 : Fr X2 W w5 := Fr.trans (Fr.refl X2 W).drew F5 (fun _ _ e => e)
  have hs := F0.size
  have hB := h.big
  refine ⟨(Fr.others h.H F0).trans (KeepsOthers.setCell _ _ _), ?_, ?_⟩
  · exact (F1.cell (by omega) (by omega)).trans (F0.cell (by omega) (fun e => by have := h.lt _ e; omega))
  · exact (F1.cell (by omega) (by omega)).trans (F0.cell (by omega) (fun e => by have := h.lt _ e; omega))

end Go.Proofs.Ytchdfenickjiiaa
