/-
  What is proved here: what may be written (package pack): dataFit, for data of any height.
-/
import Derived.Test.YtilcigjhogcjkaaPKFit3
namespace Go.Proofs.Ytilcigjhogcjkaa
open Go Go.RowKit

/-- A counter. -/
def CtAt (w : World) (cb c : Nat) : Prop := w.heap[cb]? = some (.cells #[.int .i64 (c : Int)] 78 (0, 0))
theorem CtAt.cell {w : World} {cb c : Nat} (h : CtAt w cb c) : w.cell? ⟨cb, 0, none⟩ = some (.int .i64 (c : Int)) := by
  rw [cell_of_row w cb 0 _ _ _ h]
  rfl
theorem CtAt.free {w : World} {cb c : Nat} (h : CtAt w cb c) : w.frozen? ⟨cb, 0, none⟩ = false := frozen_of_row _ _ _ _ _ h
theorem CtAt.lt {w : World} {cb c : Nat} (h : CtAt w cb c) : cb < w.heap.size := (Array.getElem?_eq_some_iff.1 h).1
theorem CtAt.set {w : World} {cb c : Nat} (h : CtAt w cb c) (d : Nat) : CtAt (w.setCell ⟨cb, 0, none⟩ (.int .i64 (d : Int))) cb d := (heap_setCell_same w cb 0 _ _ _ h).trans rfl
theorem CtAt.fr {w w' : World} {cb c : Nat} (h : CtAt w cb c) (hf : Fr (fun _ => False) w w') : CtAt w' cb c := (hf.block cb h.lt (fun e => e)).trans h
theorem up_cb {w0 w w' : World} {cb : Nat} (u : Up w0 w) (hcb : w0.heap.size ≤ cb) (h : Fr (fun k => k = cb) w w') : Up w0 w' := ⟨h.os.trans u.os, h.tape.trans u.tape, h.output.trans u.output, Nat.le_trans u.size h.size, fun k hk => (h.block k (Nat.lt_of_lt_of_le hk u.size) (fun e => by omega)).trans (u.block k hk)⟩
def ptsA (h : Nat) (I : List (Tr h)) : Nat := (I.map (ptsD h)).sum
def DF (w : World) (cb c s : Nat) (r : Bool) (e : Ending) (w' : World) : Prop := e = .returned (.bool r) ∧ (r = true → CtAt w' cb (c - s)) ∧ Fr (fun k => k = cb) w w'
def DFOK (h : Nat) : Prop := ∀ (w0 w : World) (cb c : Nat) (I : List (Tr h)) (v : Value) (dp : Nat), RowD w0 (DatC w0 h) v I → Up w0 w → w0.heap.size ≤ cb → CtAt w cb c → c ≤ 20000 → dp ≤ 100 →
  Calls Try.prog 39 #[.pointer (some ⟨cb, 0, none⟩), v, .int .i64 (dp : Int)] w fun e w' => DF w cb c (ptsA h I) (I.all (goodD h dp) && decide (ptsA h I ≤ c)) e w'

/-- The parts within the first i data. -/
def chA (h : Nat) (I : List (Tr (h + 1))) (i : Nat) : Nat := ((I.take i).map fun d => ptsA h d.2.2.2.2.2.1 + ptsA h d.2.2.2.2.2.2).sum
theorem pts_len {h : Nat} (I : List (Tr (h + 1))) : ptsA (h + 1) I = I.length + chA h I I.length := by
  unfold chA
  rw [List.take_length]
  induction I with
  | nil => rfl
  | cons d I ih =>
    have e : ptsA (h + 1) (d :: I) = ptsD (h + 1) d + ptsA (h + 1) I := by simp [ptsA]
    rw [e, ih]
    simp only [ptsD, ptsA, List.map_cons, List.sum_cons, List.length_cons]
    omega
theorem ch_succ {h : Nat} (I : List (Tr (h + 1))) (i : Nat) (hi : i < I.length) : chA h I (i + 1) = chA h I i + (ptsA h I[i].2.2.2.2.2.1 + ptsA h I[i].2.2.2.2.2.2) := by
  unfold chA
  rw [List.take_add_one, List.getElem?_eq_getElem hi, List.map_append, List.sum_append]
  simp
theorem ch_le {h : Nat} (I : List (Tr (h + 1))) (i : Nat) (_hi : i ≤ I.length) : chA h I i ≤ chA h I I.length := by
  unfold chA
  rw [List.take_length]
  have e : I.map (fun d => ptsA h d.2.2.2.2.2.1 + ptsA h d.2.2.2.2.2.2) = (I.take i).map (fun d => ptsA h d.2.2.2.2.2.1 + ptsA h d.2.2.2.2.2.2) ++ (I.drop i).map (fun d => ptsA h d.2.2.2.2.2.1 + ptsA h d.2.2.2.2.2.2) := by rw [← List.map_append, List.take_append_drop]
  rw [e, List.sum_append]
  omega
theorem good_eq {h dp : Nat} (d : Tr (h + 1)) : goodD (h + 1) (dp + 1) d = (fit1 d && (d.2.2.2.2.2.1.all (goodD h dp) && d.2.2.2.2.2.2.all (goodD h dp))) := rfl
theorem all_bad {α : Type} {f : α → Bool} {I : List α} {i : Nat} (hi : i < I.length) (h : f I[i] = false) : I.all f = false := by
  rw [List.all_eq_false]
  exact ⟨I[i], List.getElem_mem hi, by simp [h]⟩

end Go.Proofs.Ytilcigjhogcjkaa
