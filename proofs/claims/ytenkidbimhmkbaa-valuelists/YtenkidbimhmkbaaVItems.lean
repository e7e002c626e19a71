/-
  What is proved here: data of fixnums in a list of their own; package value's datum where nothing may come any more.
-/
import Derived.Test.YtenkidbimhmkbaaVFixD
import Derived.Deep.AppendLies
namespace Go.Proofs.Ytenkidbimhmkbaa
open Go Go.RowKit

theorem infoD : (Try.prog.info? 73).map (fun i => (i.zero, i.size, i.bytes)) = some (some (.agg #[.int .i64 0, .int .i64 0, .bool false, .slice none 0 0, .string ⟨#[]⟩, .slice none 0 0, .slice none 0 0]), 7, 112) := by kernel_rfl
/-- The cells of the datum of a fixnum. -/
def intC (z : Int) (L : Nat) : List Value := [.int .i64 1, .int .i64 0, .bool (decide (z < 0)), .slice (some ⟨L, 0, none⟩) (lenZ z) 2, .string ⟨#[]⟩, .slice none 0 0, .slice none 0 0]
def itemsC (z : Nat → Int) (Ls : Nat → Nat) : Nat → List Value
  | 0 => []
  | k + 1 => itemsC z Ls k ++ intC (z k) (Ls k)
theorem itemsC_congr {z : Nat → Int} {Ls Ls' : Nat → Nat} : ∀ {k : Nat}, (∀ i, i < k → Ls i = Ls' i) → itemsC z Ls k = itemsC z Ls' k
  | 0, _ => rfl
  | k + 1, h => by
    show itemsC z Ls k ++ intC (z k) (Ls k) = itemsC z Ls' k ++ intC (z k) (Ls' k)
    rw [itemsC_congr (fun i hi => h i (by omega)), h k (by omega)]
theorem itemsC_length (z : Nat → Int) (Ls : Nat → Nat) : ∀ k, (itemsC z Ls k).length = 7 * k
  | 0 => rfl
  | k + 1 => by
    show (itemsC z Ls k ++ intC (z k) (Ls k)).length = _
    rw [List.length_append, itemsC_length z Ls k]
    simp [intC]
    omega
theorem itemsC_get (z : Nat → Int) (Ls : Nat → Nat) : ∀ (k i : Nat), i < k → ∀ j, j < 7 → (itemsC z Ls k)[7 * i + j]? = (intC (z i) (Ls i))[j]?
  | 0, i, h, _, _ => by omega
  | k + 1, i, h, j, hj => by
    show (itemsC z Ls k ++ intC (z k) (Ls k))[7 * i + j]? = _
    by_cases e : i = k
    · subst e
      rw [List.getElem?_append_right (by rw [itemsC_length]; omega), itemsC_length]
      congr 1
      omega
    · rw [List.getElem?_append_left (by rw [itemsC_length]; omega)]
      exact itemsC_get z Ls k i (by omega) j hj

/-- Data of k fixnums, in new memory. -/
def Items (w w1 : World) (v : Value) (k : Nat) (z : Nat → Int) : Prop := ∃ Ls, w1.ownsRow w.heap.size 73 7 v k (itemsC z Ls k) ∧ ∀ i, i < k → Limbs w1 (Ls i) (z i) ∧ w.heap.size ≤ Ls i
theorem Items.nil (w w1 : World) (z : Nat → Int) : Items w w1 (.slice none 0 0) 0 z := ⟨fun _ => 0, World.ownsRow_nil _ _ _ _, fun i hi => by omega⟩
theorem Items.fr {w w1 w2 : World} {v : Value} {k : Nat} {z : Nat → Int} {S : Nat → Prop} (h : Items w w1 v k z) (F : Fr S w1 w2) (hS : ∀ j, w.heap.size ≤ j → ¬ S j) : Items w w2 v k z := by
  obtain ⟨Ls, h1, h2⟩ := h
  refine ⟨Ls, ⟨h1.1, ?_⟩, fun i hi => ⟨(F.block _ (Array.getElem?_eq_some_iff.1 (h2 i hi).1).1 (hS _ (h2 i hi).2)).trans (h2 i hi).1, (h2 i hi).2⟩⟩
  rcases h1.2 with e | ⟨g, cap, cur, e1, e2, e3, e4⟩
  · exact .inl e
  · exact .inr ⟨g, cap, cur, e1, e2, (F.block g (Array.getElem?_eq_some_iff.1 e3).1 (hS _ e2)).trans e3, e4⟩
theorem Items.shape {w w1 : World} {v : Value} {k : Nat} {z : Nat → Int} (h : Items w w1 v k z) : ∃ ao cap, v = .slice ao k cap := by
  obtain ⟨Ls, h1, _⟩ := h
  rcases h1.2 with ⟨e, e2⟩ | ⟨g, cap, cur, e1, _⟩
  · exact ⟨none, 0, by rw [e, e2]⟩
  · exact ⟨_, _, e1⟩
theorem Items.snoc {w wr w9 : World} {v : Value} {k : Nat} {z : Nat → Int} {Ls : Nat → Nat} (h1 : wr.ownsRow w.heap.size 73 7 v k (itemsC z Ls k)) (h2 : ∀ i, i < k → Limbs wr (Ls i) (z i) ∧ w.heap.size ≤ Ls i) {L : Nat} (hL : Limbs wr L (z k)) (hLw : w.heap.size ≤ L) {g cap : Nat} {o : Obj} (hown : w9.ownsRow w.heap.size 73 7 (.slice (some ⟨g, 0, none⟩) (k + 1) cap) (k + 1) (itemsC z Ls k ++ intC (z k) L)) (hg : (wr.alloc o).grownBy w9 v.ownBlock) : Items w w9 (.slice (some ⟨g, 0, none⟩) (k + 1) cap) (k + 1) z := by
  have keep : ∀ M x, Limbs wr M x → Limbs w9 M x := fun M x hM => by
    have hl := (Array.getElem?_eq_some_iff.1 hM).1
    refine (hg.block M (by simp; omega) (fun e => ?_)).trans ((heap_alloc_old wr o (r := M) hl).trans hM)
    rcases h1.2 with ⟨rfl, _⟩ | ⟨g', cap', cur, rfl, _, e3, _⟩
    · cases e
    · have e2 : M = g' := by simpa [Value.ownBlock] using e
      subst e2
      have := (show wr.heap[M]? = _ from hM).symm.trans e3
      simp at this
  refine ⟨fun i => if i = k then L else Ls i, ?_, fun i hi => ?_⟩
  · show w9.ownsRow w.heap.size 73 7 _ (k + 1) (itemsC z (fun i => if i = k then L else Ls i) k ++ intC (z k) (if k = k then L else Ls k))
    rw [if_pos rfl, itemsC_congr (Ls' := Ls) (fun i hi => by rw [if_neg (by omega)])]
    exact hown
  · show Limbs w9 (if i = k then L else Ls i) (z i) ∧ w.heap.size ≤ (if i = k then L else Ls i)
    by_cases e : i = k
    · rw [if_pos e, e]; exact ⟨keep _ _ hL, hLw⟩
    · rw [if_neg e]; exact ⟨keep _ _ (h2 i (by omega)).1, (h2 i (by omega)).2⟩
theorem hcells7 (w : World) (c0 c1 c2 c3 c4 c5 c6 : Value) (E : TypeId) : ∀ j u, [c0, c1, c2, c3, c4, c5, c6][j]? = some u → (w.alloc (.cells #[c0, c1, c2, c3, c4, c5, c6] E)).cell? ((⟨w.heap.size, 0, none⟩ : Addr).add j) = some u := by
  intro j u hj
  rw [Addr.add_lit, Nat.zero_add, cell_of_row _ _ j _ _ _ (heap_alloc_new w _)]
  simpa using hj

set_option maxRecDepth 20000 in
set_option maxHeartbeats 4000000 in
/-- Nothing may come any more. -/
theorem datum_none (w : World) (tb sb : Nat) (x : Nat) (d : Int) (hT : TakAt w tb sb 0) (hd : d ≤ 100) :
    Calls Try.prog 78 #[.pointer (some ⟨tb, 0, none⟩), .int .i64 d, .int .u64 (x : Int)] w fun e w' => e = .returned (.tuple #[.agg zeroD, .bool false]) ∧ Fr (fun _ => False) w w' := by
  have htl : tb < w.heap.size := (Array.getElem?_eq_some_iff.1 hT).1
  have c1 := cell_of_row w tb 1 _ _ _ hT
  have hdI : ¬ (100 < d) := by omega
  clear hT
  go_enter Try.func78, Try.ntmps78
  go_wp2_with fail
  go_returns
  exact ⟨rfl, (Fr.refl _ w).alloc _⟩

end Go.Proofs.Ytenkidbimhmkbaa
