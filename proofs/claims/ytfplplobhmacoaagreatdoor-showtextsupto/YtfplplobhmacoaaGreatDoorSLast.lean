/-
  What is proved here: the last row of package show's teller: read, turned, taken away; no walk.
-/
import Derived.Test.YtfplplobhmacoaaGreatDoorSDatum
namespace Go.Proofs.YtfplplobhmacoaaGreatDoor
open Go Go.RowKit

/-- The last row of a teller, cell by cell. -/
structure LastAt (w0 : World) (tb : Nat) (out : List UInt8) (σ : List RowP) (g cap : Nat) (a0 a1 a2 a3 a4 : Value) (w : World) : Prop where
  up : Up w0 w
  tell : TellAt w0.heap.size tb out (.slice (some ⟨g, 0, none⟩) (σ.length + 1) cap) w
  hg : w0.heap.size ≤ g
  hcap : σ.length + 1 ≤ cap
  hmax : cap ≤ maxLen
  blk : ∃ cur ys, w.heap[g]? = some (.cells cur 80 (0, 0)) ∧ cur.size = cap * 5 ∧ RowsC w0 σ ys ∧ cur.toList.take ((σ.length + 1) * 5) = ys ++ [a0, a1, a2, a3, a4]

theorem TS.last {w0 : World} {tb : Nat} {out : List UInt8} {σ : List RowP} {ρ : RowP} {w : World} (h : TS w0 tb out (σ ++ [ρ]) w) :
    ∃ g cap a0 a1 a2 a3 a4, LastAt w0 tb out σ g cap a0 a1 a2 a3 a4 w ∧ RowC w0 ρ [a0, a1, a2, a3, a4] := by
  obtain ⟨h0, rv, xs, h1, h2, h3⟩ := h
  obtain ⟨ys, cs, rfl, h4, h5⟩ := h3.last
  obtain ⟨lv, rv', rfl, h6⟩ := id h5
  rw [List.length_append, List.length_singleton] at h2
  rcases h2.2 with ⟨_, e⟩ | ⟨g, cap, cur, rfl, e2, e3, e4, e5, e6, e7⟩
  · omega
  · exact ⟨g, cap, _, _, _, _, _, ⟨h0, h1, e2, e4, e5, cur, ys, e3, e6, h4, e7⟩, h5⟩

theorem LastAt.ts {w0 : World} {tb : Nat} {out : List UInt8} {σ : List RowP} {ρ : RowP} {g cap : Nat} {a0 a1 a2 a3 a4 : Value} {w : World} (h : LastAt w0 tb out σ g cap a0 a1 a2 a3 a4 w) (hc : RowC w0 ρ [a0, a1, a2, a3, a4]) : TS w0 tb out (σ ++ [ρ]) w := by
  obtain ⟨cur, ys, e3, e6, h4, e7⟩ := h.blk
  refine ⟨h.up, _, ys ++ [a0, a1, a2, a3, a4], h.tell, ?_, h4.snoc hc⟩
  rw [List.length_append, List.length_singleton]
  refine ⟨by rw [List.length_append, h4.len]; simp; omega, .inr ⟨g, cap, cur, rfl, h.hg, e3, h.hcap, h.hmax, e6, e7⟩⟩

theorem LastAt.cell {w0 : World} {tb : Nat} {out : List UInt8} {σ : List RowP} {g cap : Nat} {a0 a1 a2 a3 a4 : Value} {w : World} (h : LastAt w0 tb out σ g cap a0 a1 a2 a3 a4 w) :
    w.cell? ⟨tb, 2, none⟩ = some (.slice (some ⟨g, 0, none⟩) (σ.length + 1) cap) ∧ w.cell? ⟨g, σ.length * 5, none⟩ = some a0 ∧ w.cell? ⟨g, σ.length * 5 + 1, none⟩ = some a1 ∧ w.cell? ⟨g, σ.length * 5 + 2, none⟩ = some a2 ∧ w.cell? ⟨g, σ.length * 5 + 3, none⟩ = some a3 ∧ w.cell? ⟨g, σ.length * 5 + 4, none⟩ = some a4 := by
  obtain ⟨cur, ys, e3, e6, h4, e7⟩ := h.blk
  have hl := h4.len
  have key : ∀ j, j < 5 → w.cell? ⟨g, σ.length * 5 + j, none⟩ = [a0, a1, a2, a3, a4][j]? := fun j hj => by
    rw [cell_of_row w g _ cur _ _ e3, ← Array.getElem?_toList]
    have := congrArg (fun l : List Value => l[σ.length * 5 + j]?) e7
    simp only [List.getElem?_take] at this
    rw [if_pos (by omega), List.getElem?_append_right (by omega), hl] at this
    rw [this]
    congr 1
    omega
  exact ⟨h.tell.rows, key 0 (by decide), key 1 (by decide), key 2 (by decide), key 3 (by decide), key 4 (by decide)⟩
theorem LastAt.free {w0 : World} {tb : Nat} {out : List UInt8} {σ : List RowP} {g cap : Nat} {a0 a1 a2 a3 a4 : Value} {w : World} (h : LastAt w0 tb out σ g cap a0 a1 a2 a3 a4 w) (i : Nat) : w.frozen? ⟨g, i, none⟩ = false := by
  obtain ⟨cur, ys, e3, e6, h4, e7⟩ := h.blk
  exact frozen_of_row w g i cur _ e3
theorem LastAt.lt {w0 : World} {tb : Nat} {out : List UInt8} {σ : List RowP} {g cap : Nat} {a0 a1 a2 a3 a4 : Value} {w : World} (h : LastAt w0 tb out σ g cap a0 a1 a2 a3 a4 w) : g < w.heap.size ∧ tb < w.heap.size := by
  obtain ⟨cur, ys, e3, e6, h4, e7⟩ := h.blk
  exact ⟨(Array.getElem?_eq_some_iff.1 e3).1, h.tell.lt⟩
/-- Nothing that was there has turned. -/
theorem LastAt.more {w0 : World} {tb : Nat} {out : List UInt8} {σ : List RowP} {g cap : Nat} {a0 a1 a2 a3 a4 : Value} {w w' : World} (h : LastAt w0 tb out σ g cap a0 a1 a2 a3 a4 w) (u : Up w w') : LastAt w0 tb out σ g cap a0 a1 a2 a3 a4 w' := by
  obtain ⟨cur, ys, e3, e6, h4, e7⟩ := h.blk
  exact ⟨h.up.tr u, h.tell.keep (fun k c e _ h => u.old h), h.hg, h.hcap, h.hmax, cur, ys, u.old e3, e6, h4, e7⟩

theorem set_row {ys : List Value} {a b : Value} {cs ds : List Value} {cur : Array Value} {N i : Nat} (h : cur.toList.take N = ys ++ (cs ++ a :: ds)) (hi : i = ys.length + cs.length) (_hN : i < N) : (cur.setIfInBounds i b).toList.take N = ys ++ (cs ++ b :: ds) := by
  rw [Array.toList_setIfInBounds, List.take_set, h, hi, List.set_append_right _ _ (by omega), List.set_append_right _ _ (by omega)]
  simp

/-- One cell of the last row is stored anew. -/
theorem LastAt.put {w0 : World} {tb : Nat} {out : List UInt8} {σ : List RowP} {g cap : Nat} {a0 a1 a2 a3 a4 b : Value} {w : World} (h : LastAt w0 tb out σ g cap a0 a1 a2 a3 a4 w) :
    LastAt w0 tb out σ g cap a0 b a2 a3 a4 (w.setCell ⟨g, σ.length * 5 + 1, none⟩ b) ∧ LastAt w0 tb out σ g cap a0 a1 b a3 a4 (w.setCell ⟨g, σ.length * 5 + 2, none⟩ b) ∧ LastAt w0 tb out σ g cap a0 a1 a2 b a4 (w.setCell ⟨g, σ.length * 5 + 3, none⟩ b) := by
  obtain ⟨cur, ys, e3, e6, h4, e7⟩ := h.blk
  have hl := h4.len
  have hne : ∀ {k : Nat} {c : Array Value} {E : TypeId}, E ≠ 80 → w.heap[k]? = some (.cells c E (0, 0)) → k ≠ g := fun hE hk e => by
    rw [e, e3] at hk
    simp at hk
    exact hE hk.2.symm
  have hT : ∀ i, TellAt w0.heap.size tb out (.slice (some ⟨g, 0, none⟩) (σ.length + 1) cap) (w.setCell ⟨g, i, none⟩ b) := fun i => h.tell.keep fun k c e he hk => (heap_setCell_other _ _ _ _ (hne (by rcases he with rfl | rfl <;> decide) hk)).trans hk
  have hU : ∀ i, Up w0 (w.setCell ⟨g, i, none⟩ b) := fun i => Below.setCell (p := ⟨g, i, none⟩) h.up h.hg _
  refine ⟨⟨hU _, hT _, h.hg, h.hcap, h.hmax, _, ys, heap_setCell_same w g _ cur _ _ e3, by simpa using e6, h4, ?_⟩, ⟨hU _, hT _, h.hg, h.hcap, h.hmax, _, ys, heap_setCell_same w g _ cur _ _ e3, by simpa using e6, h4, ?_⟩, ⟨hU _, hT _, h.hg, h.hcap, h.hmax, _, ys, heap_setCell_same w g _ cur _ _ e3, by simpa using e6, h4, ?_⟩⟩
  · exact set_row (cs := [a0]) e7 (by rw [hl]; rfl) (by omega)
  · exact set_row (cs := [a0, a1]) e7 (by rw [hl]; rfl) (by omega)
  · exact set_row (cs := [a0, a1, a2]) e7 (by rw [hl]; rfl) (by omega)

/-- The last row is taken away. -/
theorem LastAt.pop {w0 : World} {tb : Nat} {out : List UInt8} {σ : List RowP} {g cap : Nat} {a0 a1 a2 a3 a4 : Value} {w : World} (h : LastAt w0 tb out σ g cap a0 a1 a2 a3 a4 w) :
    w.frozen? ⟨tb, 2, none⟩ = false ∧ TS w0 tb out σ (w.setCell ⟨tb, 2, none⟩ (.slice (some ⟨g, 0, none⟩) σ.length cap)) := by
  obtain ⟨cur, ys, e3, e6, h4, e7⟩ := h.blk
  obtain ⟨hB, p, v, k1, k2, k3⟩ := h.tell
  have hl := h4.len
  have hne : ∀ {k : Nat} {c : Array Value} {E : TypeId}, E ≠ 58 → w.heap[k]? = some (.cells c E (0, 0)) → k ≠ tb := fun hE hk e => by
    rw [e, k1] at hk
    simp at hk
    exact hE hk.2.symm
  refine ⟨frozen_of_row w tb 2 _ _ k1, Below.setCell (p := ⟨tb, 2, none⟩) h.up hB _, _, ys, ⟨hB, p, v, heap_setCell_same w tb 2 _ _ _ k1, k2, ownsRow_blk k3 (fun k c hk => (heap_setCell_other _ _ _ _ (hne (by decide) hk)).trans hk)⟩, ?_, h4⟩
  refine ⟨hl, .inr ⟨g, cap, cur, rfl, h.hg, (heap_setCell_other _ _ _ _ (hne (by decide) e3)).trans e3, by have := h.hcap; omega, h.hmax, e6, ?_⟩⟩
  have := congrArg (List.take (σ.length * 5)) e7
  have e8 : ys.take (σ.length * 5) = ys := List.take_of_length_le (by omega)
  rw [List.take_take, Nat.min_eq_left (by omega), List.take_append_of_le_length (by omega), e8] at this
  exact this

end Go.Proofs.YtfplplobhmacoaaGreatDoor
