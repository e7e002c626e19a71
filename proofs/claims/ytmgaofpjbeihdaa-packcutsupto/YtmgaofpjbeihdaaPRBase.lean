/-
  What is proved here: a reader of package pack: bytes that lie there, must, take; what is taken, or that it gives up.
-/
import Derived.Test.YtmgaofpjbeihdaaPKBulk
import Derived.WalkLawsBesides
namespace Go.Proofs.Ytmgaofpjbeihdaa
open Go Go.RowKit

/-- What the reader gives up with. -/
def PAN : List PanicEntry := [{ v := .iface 9 (.string ⟨#[112, 97, 99, 107, 58, 32, 110, 111, 116, 32, 116, 104, 101, 32, 98, 121, 116, 101, 115, 32, 111, 102, 32, 97, 32, 112, 114, 111, 103, 114, 97, 109]⟩), recovered := false }]
/-- Bytes that lie there. -/
def BL (w : World) (v : Value) (l : List Nat) : Prop := ∃ ao cap, v = .slice ao l.length cap ∧ l.length ≤ cap ∧ cap ≤ 9223372036854775807 ∧ ((ao = none ∧ cap = 0) ∨ ∃ g off, ao = some ⟨g, off, none⟩ ∧ ∀ j (hj : j < l.length), w.cell? ⟨g, off + j, none⟩ = some (.int .u8 (l[j] : Int)))
theorem BL.up {w w' : World} {v : Value} {l : List Nat} (h : BL w v l) (u : Up w w') : BL w' v l := by
  obtain ⟨ao, cap, e, h1, h2, h3⟩ := h
  refine ⟨ao, cap, e, h1, h2, ?_⟩
  rcases h3 with h3 | ⟨g, off, ea, hc⟩
  · exact .inl h3
  · exact .inr ⟨g, off, ea, fun j hj => (u.cell (p := ⟨g, off + j, none⟩) (World.block_lt_of_cell? w _ (hc j hj))).trans (hc j hj)⟩
/-- A reader: what is left, how many parts. -/
def RdAt (w : World) (rb : Nat) (v : Value) (p : Nat) : Prop := w.heap[rb]? = some (.cells #[v, .int .i64 (p : Int)] 67 (0, 0))
theorem RdAt.lt {w : World} {rb p : Nat} {v : Value} (h : RdAt w rb v p) : rb < w.heap.size := (Array.getElem?_eq_some_iff.1 h).1
theorem RdAt.c0 {w : World} {rb p : Nat} {v : Value} (h : RdAt w rb v p) : w.cell? ⟨rb, 0, none⟩ = some v := by
  rw [cell_of_row w rb 0 _ _ _ h]
  rfl
theorem RdAt.c1 {w : World} {rb p : Nat} {v : Value} (h : RdAt w rb v p) : w.cell? ⟨rb, 1, none⟩ = some (.int .i64 (p : Int)) := by
  rw [cell_of_row w rb 1 _ _ _ h]
  rfl
theorem RdAt.fz {w : World} {rb p : Nat} {v : Value} (h : RdAt w rb v p) (i : Nat) : w.frozen? ⟨rb, i, none⟩ = false := frozen_of_row _ _ _ _ _ h
theorem RdAt.set0 {w : World} {rb p : Nat} {v : Value} (h : RdAt w rb v p) (u : Value) : RdAt (w.setCell ⟨rb, 0, none⟩ u) rb u p := (heap_setCell_same w rb 0 _ _ u h).trans rfl
theorem RdAt.set1 {w : World} {rb p : Nat} {v : Value} (h : RdAt w rb v p) (q : Nat) : RdAt (w.setCell ⟨rb, 1, none⟩ (.int .i64 (q : Int))) rb v q := (heap_setCell_same w rb 1 _ _ _ h).trans rfl
/-- A reader over bytes that lay there at w0. -/
def RS (w0 w : World) (rb : Nat) (l : List Nat) (p : Nat) : Prop := Up w0 w ∧ w0.heap.size ≤ rb ∧ ∃ v, BL w0 v l ∧ RdAt w rb v p
/-- What comes of reading: something, with what is left; or it gives up. -/
def RE (w0 w : World) (rb : Nat) (val : Value → World → Prop) (out : Option (List Nat × Nat)) (e : Ending) (w' : World) : Prop :=
  Up w0 w' ∧ w.heap.size ≤ w'.heap.size ∧ match out with
  | none => e = .panicked PAN
  | some (l', p') => ∃ v, e = .returned v ∧ val v w' ∧ RS w0 w' rb l' p'

theorem must_yes (w : World) : Calls Try.prog 46 #[.bool true] w fun e w' => e = .returned (.tuple #[]) ∧ w' = w := by
  go_enter Try.func46, Try.ntmps46
  go_wp2
  go_end0
  exact ⟨rfl, rfl⟩
theorem must_no (w : World) : Calls Try.prog 46 #[.bool false] w fun e w' => e = .panicked PAN ∧ w' = w := by
  go_enter Try.func46, Try.ntmps46
  go_wp2
  exact ⟨rfl, rfl, rfl⟩
theorem BL.take {w : World} {ao : Option Addr} {n cap : Nat} {l : List Nat} (h : BL w (.slice ao n cap) l) {k : Nat} (hk : k ≤ l.length) : BL w (.slice ao k cap) (l.take k) := by
  obtain ⟨ao', cap', e, h1, h2, h3⟩ := h
  cases e
  have hl : (l.take k).length = k := by rw [List.length_take]; omega
  refine ⟨ao, cap, by rw [hl], by omega, h2, ?_⟩
  rcases h3 with h3 | ⟨g, off, ea, hc⟩
  · exact .inl h3
  · refine .inr ⟨g, off, ea, fun j hj => ?_⟩
    rw [hc j (by omega), List.getElem_take]
theorem BL.drop {w : World} {g off n cap : Nat} {l : List Nat} (h : BL w (.slice (some ⟨g, off, none⟩) n cap) l) {k : Nat} (hk : k ≤ l.length) : BL w (.slice (some ⟨g, off + k, none⟩) (l.length - k) (cap - k)) (l.drop k) := by
  obtain ⟨ao', cap', e, h1, h2, h3⟩ := h
  cases e
  have hl : (l.drop k).length = l.length - k := List.length_drop
  refine ⟨_, _, by rw [hl], by omega, by omega, .inr ⟨g, off + k, rfl, fun j hj => ?_⟩⟩
  rcases h3 with ⟨e, -⟩ | ⟨g', off', ea, hc⟩
  · cases e
  · cases ea
    rw [List.getElem_drop, Nat.add_assoc]
    exact hc (k + j) (by omega)
theorem BL.end {w : World} {g off n cap : Nat} {l : List Nat} (h : BL w (.slice (some ⟨g, off, none⟩) n cap) l) {k : Nat} (hk : k = l.length) : BL w (.slice (some ⟨g, off, none⟩) (l.length - k) (cap - k)) (l.drop k) := by
  obtain ⟨ao', cap', e, h1, h2, h3⟩ := h
  cases e
  have hl : (l.drop k).length = l.length - k := List.length_drop
  refine ⟨_, _, by rw [hl], by omega, by omega, .inr ⟨g, off, rfl, fun j hj => ?_⟩⟩
  rw [hl] at hj
  omega

end Go.Proofs.Ytmgaofpjbeihdaa
