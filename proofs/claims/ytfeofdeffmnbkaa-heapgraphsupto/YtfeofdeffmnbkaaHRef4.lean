/-
  What is proved here: the document's own heap: a new one, and an object that is laid.
-/
import Derived.Test.YtfeofdeffmnbkaaHRef3
import Derived.Test.YtfeofdeffmnbkaaHZeros
namespace Go.Proofs.Ytfeofdeffmnbkaa
open Go Go.RowKit

/-- The document's own heap in memory, whatever it holds. -/
structure RefMem (w : World) (rb sz : Nat) (tm : Int) (vW : Value) (n : Nat) (f : Nat → Nat) (vH : Value) (hn : Nat) (hd : Nat → Nat) : Prop where
  blk : w.heap[rb]? = some (.cells #[.int .i64 (sz : Int), vW, vH, .int .i64 tm] 67 (0, 0))
  oW : Own .u64 33 w 0 vW n f
  oH : Own .i64 3 w 0 vH hn hd
  nW : vW.ownBlock ≠ some rb
  nH : vH.ownBlock ≠ some rb
  nn : ∀ g, vW.ownBlock = some g → vH.ownBlock ≠ some g

theorem RefMem.lt {w : World} {rb sz : Nat} {tm : Int} {vW : Value} {n : Nat} {f : Nat → Nat} {vH : Value} {hn : Nat} {hd : Nat → Nat} (h : RefMem w rb sz tm vW n f vH hn hd) : rb < w.heap.size := (Array.getElem?_eq_some_iff.1 h.blk).1
theorem RefMem.cells {w : World} {rb sz : Nat} {tm : Int} {vW : Value} {n : Nat} {f : Nat → Nat} {vH : Value} {hn : Nat} {hd : Nat → Nat} (h : RefMem w rb sz tm vW n f vH hn hd) : w.cell? ⟨rb, 0, none⟩ = some (.int .i64 (sz : Int)) ∧ w.cell? ⟨rb, 1, none⟩ = some vW ∧ w.cell? ⟨rb, 2, none⟩ = some vH ∧ w.cell? ⟨rb, 3, none⟩ = some (.int .i64 tm) := by
  refine ⟨?_, ?_, ?_, ?_⟩
  all_goals
    rw [cell_of_row w rb _ _ _ _ h.blk]
    rfl
/-- The words have grown, and are stored. -/
theorem RefMem.growW {w w2 : World} {rb sz : Nat} {tm : Int} {vW vW2 : Value} {n n2 : Nat} {f f2 : Nat → Nat} {vH : Value} {hn : Nat} {hd : Nat → Nat} (h : RefMem w rb sz tm vW n f vH hn hd) (hf : Fr (fun k => vW.ownBlock = some k) w w2) (hv : Own .u64 33 w2 0 vW2 n2 f2) (hst : Stays w.heap.size vW vW2) :
    w2.cell? ⟨rb, 1, none⟩ = some vW ∧ w2.frozen? ⟨rb, 1, none⟩ = false ∧ RefMem (w2.setCell ⟨rb, 1, none⟩ vW2) rb sz tm vW2 n2 f2 vH hn hd := by
  have hb2 : w2.heap[rb]? = some (.cells #[.int .i64 (sz : Int), vW, vH, .int .i64 tm] 67 (0, 0)) := (hf.block rb h.lt h.nW).trans h.blk
  have oH2 : Own .i64 3 w2 0 vH hn hd := h.oH.fr hf fun g hg e => h.nn g e hg
  have hn2 : vW2.ownBlock ≠ some rb := fun e => by
    rcases hst rb e with e | e
    · exact h.nW e
    · have := h.lt; omega
  have hnn : ∀ g, vW2.ownBlock = some g → vH.ownBlock ≠ some g := fun g hg e => by
    rcases hst g hg with e2 | e2
    · exact h.nn g e2 e
    · have := h.oH.block_lt e; omega
  have hfr : Fr (fun k => k = rb) w2 (w2.setCell ⟨rb, 1, none⟩ vW2) := Fr.setCell (S := fun k => k = rb) (Fr.refl _ _) (fun _ => rfl) _ _
  refine ⟨by rw [cell_of_row w2 rb 1 _ _ _ hb2]; rfl, frozen_of_row w2 rb 1 _ _ hb2, heap_setCell_same w2 rb 1 _ _ _ hb2, hv.fr hfr fun g hg e => ?_, oH2.fr hfr fun g hg e => ?_, hn2, h.nH, hnn⟩
  · rw [e] at hg; exact hn2 hg
  · rw [e] at hg; exact h.nH hg
/-- The list of places has grown, and is stored. -/
theorem RefMem.growH {w w2 : World} {rb sz : Nat} {tm : Int} {vW vH2 : Value} {n : Nat} {f : Nat → Nat} {vH : Value} {hn hn2 : Nat} {hd hd2 : Nat → Nat} (h : RefMem w rb sz tm vW n f vH hn hd) (hf : Fr (fun k => vH.ownBlock = some k) w w2) (hv : Own .i64 3 w2 0 vH2 hn2 hd2) (hst : Stays w.heap.size vH vH2) :
    w2.cell? ⟨rb, 2, none⟩ = some vH ∧ w2.frozen? ⟨rb, 2, none⟩ = false ∧ RefMem (w2.setCell ⟨rb, 2, none⟩ vH2) rb sz tm vW n f vH2 hn2 hd2 := by
  have hb2 : w2.heap[rb]? = some (.cells #[.int .i64 (sz : Int), vW, vH, .int .i64 tm] 67 (0, 0)) := (hf.block rb h.lt h.nH).trans h.blk
  have oW2 : Own .u64 33 w2 0 vW n f := h.oW.fr hf fun g hg e => h.nn g hg e
  have hnb : vH2.ownBlock ≠ some rb := fun e => by
    rcases hst rb e with e | e
    · exact h.nH e
    · have := h.lt; omega
  have hnn : ∀ g, vW.ownBlock = some g → vH2.ownBlock ≠ some g := fun g hg e => by
    rcases hst g e with e2 | e2
    · exact h.nn g hg e2
    · have := h.oW.block_lt hg; omega
  have hfr : Fr (fun k => k = rb) w2 (w2.setCell ⟨rb, 2, none⟩ vH2) := Fr.setCell (S := fun k => k = rb) (Fr.refl _ _) (fun _ => rfl) _ _
  refine ⟨by rw [cell_of_row w2 rb 2 _ _ _ hb2]; rfl, frozen_of_row w2 rb 2 _ _ hb2, heap_setCell_same w2 rb 2 _ _ _ hb2, oW2.fr hfr fun g hg e => ?_, hv.fr hfr fun g hg e => ?_, h.nW, hnb, hnn⟩
  · rw [e] at hg; exact h.nW hg
  · rw [e] at hg; exact hnb hg

theorem infoN : (Try.prog.info? 3).map (fun i => (i.zero, i.size, i.bytes)) = some (some (.int .i64 0), 1, 8) := by kernel_rfl

theorem rnew_bad (z : Int) (w : World) (h : z < 2 ∨ 1048576 < z) :
    Calls Try.prog 35 #[.int .i64 z] w fun e w' => e = .returned (.tuple #[.pointer none, .int .i64 1]) ∧ w' = w := by
  by_cases h2 : z < 2
  · clear h
    go_enter Try.func35, Try.ntmps35
    go_wp2
    go_ret2
    exact ⟨rfl, rfl⟩
  · have h3 : 1048576 < z := by omega
    clear h
    go_enter Try.func35, Try.ntmps35
    go_wp2
    go_ret2
    exact ⟨rfl, rfl⟩

theorem rnew_ok (z : Nat) (w : World) (h1 : 2 ≤ z) (h2 : z ≤ 1048576) :
    Calls Try.prog 35 #[.int .i64 (z : Int)] w fun e w' => e = .returned (.tuple #[.pointer (some ⟨w.heap.size + 1, 0, none⟩), .int .i64 0]) ∧ ∃ Y, RefAt w' (w.heap.size + 1) Y z 0 1 (fun _ => 0) (fun _ => false) ∧ (∀ k, Y k → w.heap.size ≤ k) ∧ Fr (fun _ => False) w w' := by
  go_enter Try.func35, Try.ntmps35
  go_wp2
  go_ret2
  refine ⟨rfl, fun k => k = w.heap.size + 1 ∨ k = w.heap.size, ⟨.slice (some ⟨w.heap.size, 0, none⟩) 1 1, .slice none 0 0, 0, fun _ => 0, ?_, .inr ⟨w.heap.size, 1, rfl, Nat.zero_le _, by decide, #[.int .u64 0], ?_, rfl, Nat.le_refl _, fun i hi => ?_⟩, .inl ⟨rfl, rfl⟩, fun e => ?_, (fun e => by cases e), (fun g _ e => by cases e), (fun i j _ hj => by omega), (fun p => ⟨(fun e => by cases e), fun ⟨k, hk, _⟩ => by omega⟩), Good.one, (fun i _ => by show (0 : Nat) < _; decide), (by omega), (by omega), h2, fun k => ⟨fun e => ?_, fun e => ?_⟩⟩, fun k e => by omega, ((Fr.refl _ _).alloc _).alloc _⟩
  · have := heap_alloc_new (w.alloc (.cells #[.int .u64 0] 33)) (.cells #[.int .i64 (z : Int), .slice (some ⟨w.heap.size, 0, none⟩) 1 1, .slice none 0 0, .int .i64 0] 67)
    simpa using this
  · rw [heap_alloc_old _ _ (r := w.heap.size) (by simp)]
    exact heap_alloc_new w _
  · obtain rfl : i = 0 := by omega
    rfl
  · simp [Value.ownBlock] at e
  · rcases e with e | e
    · exact .inl e
    · exact .inr (.inl (by rw [e]; rfl))
  · rcases e with e | e | e
    · exact .inl e
    · exact .inr (by simpa [Value.ownBlock] using e.symm)
    · cases e

theorem RefIn.mem {w : World} {rb : Nat} {Y : Nat → Prop} {sz : Nat} {tm : Int} {n : Nat} {f : Nat → Nat} {st : Nat → Bool} {vW vH : Value} {hn : Nat} {hd : Nat → Nat} (h : RefIn w rb Y sz tm n f st vW vH hn hd) : RefMem w rb sz tm vW n f vH hn hd := ⟨h.blk, h.oW, h.oH, h.nW, h.nH, h.nn⟩
theorem RefMem.fr {S : Nat → Prop} {w w2 : World} {rb sz : Nat} {tm : Int} {vW : Value} {n : Nat} {f : Nat → Nat} {vH : Value} {hn : Nat} {hd : Nat → Nat} (h : RefMem w rb sz tm vW n f vH hn hd) (hf : Fr S w w2) (hs : ∀ k, (k = rb ∨ vW.ownBlock = some k ∨ vH.ownBlock = some k) → ¬ S k) : RefMem w2 rb sz tm vW n f vH hn hd :=
  ⟨(hf.block rb h.lt (hs rb (.inl rfl))).trans h.blk, h.oW.fr hf fun g hg => hs g (.inr (.inl hg)), h.oH.fr hf fun g hg => hs g (.inr (.inr hg)), h.nW, h.nH, h.nn⟩

end Go.Proofs.Ytfeofdeffmnbkaa
