/-
  What is proved here: what a writer holds (package pack), and bytes behind it; no walk.
-/
import Derived.Test.YtilcigjhogcjkaaPKModel
namespace Go.Proofs.Ytilcigjhogcjkaa
open Go Go.RowKit

theorem infoU8 : (Try.prog.info? 5).map (fun i => (i.zero, i.size, i.bytes)) = some (some (.int .u8 0), 1, 1) := by kernel_rfl
/-- Bytes as they lie in memory. -/
def cL (l : List Nat) : List Value := l.map fun (x : Nat) => Value.int .u8 (x : Int)
theorem cL_len (l : List Nat) : (cL l).length = l.length := by simp [cL]
theorem cL_app (a b : List Nat) : cL (a ++ b) = cL a ++ cL b := by simp [cL]
theorem cL_one (l : List Nat) : ∀ u ∈ cL l, u.oneCell' = true := fun u hu => by
  simp only [cL, List.mem_map] at hu
  obtain ⟨x, -, rfl⟩ := hu
  rfl
/-- A writer, whose bytes lie from block B on. -/
structure WOut (B : Nat) (w : World) (wb : Nat) (out : List Nat) (v : Value) : Prop where
  box : w.heap[wb]? = some (.cells #[v] 53 (0, 0))
  own : w.ownsRow B 5 1 v out.length (cL out)
  ne : v.ownBlock ≠ some wb
  lo : B ≤ wb
def WO (B : Nat) (w : World) (wb : Nat) (out : List Nat) : Prop := ∃ v, WOut B w wb out v
theorem WOut.cell {B : Nat} {w : World} {wb : Nat} {out : List Nat} {v : Value} (h : WOut B w wb out v) : w.cell? ⟨wb, 0, none⟩ = some v := by
  rw [cell_of_row w wb 0 _ _ _ h.box]
  rfl
theorem WOut.free {B : Nat} {w : World} {wb : Nat} {out : List Nat} {v : Value} (h : WOut B w wb out v) : w.frozen? ⟨wb, 0, none⟩ = false := frozen_of_row _ _ _ _ _ h.box
theorem WOut.lt {B : Nat} {w : World} {wb : Nat} {out : List Nat} {v : Value} (h : WOut B w wb out v) : wb < w.heap.size := (Array.getElem?_eq_some_iff.1 h.box).1
theorem WOut.shape {B : Nat} {w : World} {wb : Nat} {out : List Nat} {v : Value} (h : WOut B w wb out v) : ∃ ao cap, v = .slice ao out.length cap := by
  rcases h.own.2 with ⟨e, e0⟩ | ⟨g, cap, cur, e, _⟩
  · exact ⟨none, 0, by rw [e, e0]⟩
  · exact ⟨_, _, e⟩
/-- What is no row of bytes, and no writer, is as it was; and so is all below B. -/
structure FW (B : Nat) (w w' : World) : Prop where
  fr : Fr (fun k => B ≤ k) w w'
  kt : ∀ (k : Nat) (c : Array Value) (E : TypeId) (f : Nat × Nat), w.heap[k]? = some (.cells c E f) → E ≠ 5 → E ≠ 53 → w'.heap[k]? = some (.cells c E f)
theorem FW.refl (B : Nat) (w : World) : FW B w w := ⟨Fr.refl _ _, fun _ _ _ _ h _ _ => h⟩
theorem FW.trans {B : Nat} {a b c : World} (h : FW B a b) (k : FW B b c) : FW B a c := ⟨h.fr.trans k.fr (fun _ _ e => e), fun x y E f hx h1 h2 => k.kt x y E f (h.kt x y E f hx h1 h2) h1 h2⟩
theorem FW.of {B : Nat} {a b : World} (h : Fr (fun _ => False) a b) : FW B a b := ⟨h.mono (fun _ _ e => e.elim), fun x _ _ _ hx _ _ => (h.block x (Array.getElem?_eq_some_iff.1 hx).1 (fun e => e)).trans hx⟩
theorem FW.up {w0 a b : World} (h : FW w0.heap.size a b) (u : Up w0 a) : Up w0 b := ⟨h.fr.os.trans u.os, h.fr.tape.trans u.tape, h.fr.output.trans u.output, Nat.le_trans u.size h.fr.size, fun k hk => (h.fr.block k (Nat.lt_of_lt_of_le hk u.size) (fun e => by omega)).trans (u.block k hk)⟩
/-- Where nothing but new blocks, or what is none of its own, has turned. -/
theorem WOut.keep {B : Nat} {w w' : World} {wb : Nat} {out : List Nat} {v : Value} (h : WOut B w wb out v) (hf : Fr (fun _ => False) w w') : WOut B w' wb out v :=
  { h with
    box := (hf.block wb h.lt (fun e => e)).trans h.box
    own := by
      refine ⟨h.own.1, ?_⟩
      rcases h.own.2 with e | ⟨g, cap, cur, e1, e2, e3, e4⟩
      · exact .inl e
      · exact .inr ⟨g, cap, cur, e1, e2, (hf.block g (Array.getElem?_eq_some_iff.1 e3).1 (fun e => e)).trans e3, e4⟩ }
theorem WOut.at9 {B : Nat} {w W w9 : World} {wb : Nat} {out : List Nat} {v : Value} (h : WOut B w wb out v) (hW : Fr (fun _ => False) w W) (hgrow : W.grownBy w9 v.ownBlock) : w9.cell? ⟨wb, 0, none⟩ = some v ∧ w9.frozen? ⟨wb, 0, none⟩ = false := by
  have hb9 : w9.heap[wb]? = some (.cells #[v] 53 (0, 0)) := by
    have := h.lt
    have := hW.size
    rw [hgrow.block wb (by omega) (fun e => h.ne e.symm)]
    exact (hW.block wb h.lt (fun e => e)).trans h.box
  exact ⟨by rw [cell_of_row w9 wb 0 _ _ _ hb9]; rfl, frozen_of_row _ _ _ _ _ hb9⟩
/-- Bytes are put behind those that are there, and the row is stored. -/
theorem WOut.put {B : Nat} {w w9 : World} {wb : Nat} {out x : List Nat} {v : Value} {W : World} {g n cap : Nat} (h : WOut B w wb out v) (hW : Fr (fun _ => False) w W) (hn : n = (out ++ x).length) (hown : w9.ownsRow B 5 1 (.slice (some ⟨g, 0, none⟩) n cap) n (cL out ++ cL x)) (hgrow : W.grownBy w9 v.ownBlock) (hat : v.ownBlock = some g ∨ W.heap.size ≤ g) :
    WOut B (w9.setCell ⟨wb, 0, none⟩ (.slice (some ⟨g, 0, none⟩) n cap)) wb (out ++ x) (.slice (some ⟨g, 0, none⟩) n cap) ∧ FW B w (w9.setCell ⟨wb, 0, none⟩ (.slice (some ⟨g, 0, none⟩) n cap)) := by
  subst hn
  have hlt := h.lt
  have hs := hW.size
  have hgw : g ≠ wb := by
    rcases hat with e | e
    · intro e2
      exact h.ne (by rw [e, e2])
    · omega
  have hb9 : w9.heap[wb]? = some (.cells #[v] 53 (0, 0)) := by
    rw [hgrow.block wb (by omega) (fun e => h.ne e.symm)]
    exact (hW.block wb hlt (fun e => e)).trans h.box
  have hgB : B ≤ g := by
    rcases hown.2 with ⟨e, _⟩ | ⟨g', cap', cur, e, h1, _⟩
    · cases e
    · cases e
      exact h1
  refine ⟨⟨(heap_setCell_same w9 wb 0 _ _ _ hb9).trans rfl, ?_, fun e => hgw (by simpa [Value.ownBlock] using e), h.lo⟩, ?_⟩
  · rw [cL_app]
    refine ⟨hown.1, ?_⟩
    rcases hown.2 with ⟨e, e0⟩ | ⟨g', cap', cur, e1, e2, e3, e4⟩
    · cases e
    · cases e1
      exact .inr ⟨_, _, cur, rfl, e2, (heap_setCell_other _ _ _ _ hgw).trans e3, e4⟩
  · refine ⟨Fr.setCell (S := fun k => B ≤ k) (Fr.grow (S := fun k => B ≤ k) (hW.mono (fun _ _ e => e.elim)) hgrow (fun k hk e => (h.own.lt k e).1)) (fun _ => h.lo) _ _, fun k c E f hk h1 h2 => ?_⟩
    have hkl := (Array.getElem?_eq_some_iff.1 hk).1
    have hkw : k ≠ wb := fun e => by
      rw [e, h.box] at hk
      injection hk with hk
      injection hk with _ hk
      exact h2 hk.symm
    have hkv : some k ≠ v.ownBlock := fun e => by
      rcases h.own.2 with ⟨ev, _⟩ | ⟨g', cap', cur, e1, _, e3, _⟩
      · rw [ev] at e; cases e
      · rw [e1] at e
        have e : k = g' := by simpa [Value.ownBlock] using e
        rw [e, e3] at hk
        injection hk with hk
        injection hk with _ hk
        exact h1 hk.symm
    rw [heap_setCell_other _ _ _ _ hkw, hgrow.block k (by omega) hkv, hW.block k hkl (fun e => e)]
    exact hk

/-- The same, where it is not told where the row lies. -/
theorem WOut.putV {B : Nat} {w w9 : World} {wb : Nat} {out x : List Nat} {v v' : Value} {W : World} {n : Nat} (h : WOut B w wb out v) (hW : Fr (fun _ => False) w W) (hn : n = (out ++ x).length) (hown : w9.ownsRow B 5 1 v' n (cL out ++ cL x)) (hgrow : W.grownBy w9 v.ownBlock) :
    WOut B (w9.setCell ⟨wb, 0, none⟩ v') wb (out ++ x) v' ∧ FW B w (w9.setCell ⟨wb, 0, none⟩ v') := by
  subst hn
  have hlt := h.lt
  have hs := hW.size
  have hb9 : w9.heap[wb]? = some (.cells #[v] 53 (0, 0)) := by
    rw [hgrow.block wb (by omega) (fun e => h.ne e.symm)]
    exact (hW.block wb hlt (fun e => e)).trans h.box
  refine ⟨⟨(heap_setCell_same w9 wb 0 _ _ _ hb9).trans rfl, ?_, ?_, h.lo⟩, ?_⟩
  · rw [cL_app]
    refine ⟨hown.1, ?_⟩
    rcases hown.2 with ⟨e, e0⟩ | ⟨g', cap', cur, e1, e2, e3, e4⟩
    · exact .inl ⟨e, e0⟩
    · have hgw : g' ≠ wb := fun e => by
        rw [e, hb9] at e3
        injection e3 with e3
        injection e3 with _ e3
        exact absurd e3 (by decide)
      exact .inr ⟨_, _, cur, e1, e2, (heap_setCell_other _ _ _ _ hgw).trans e3, e4⟩
  · rcases hown.2 with ⟨e, e0⟩ | ⟨g', cap', cur, e1, e2, e3, e4⟩
    · rw [e]
      exact fun e => by cases e
    · rw [e1]
      intro e
      have e : g' = wb := by simpa [Value.ownBlock] using e
      rw [e, hb9] at e3
      injection e3 with e3
      injection e3 with _ e3
      exact absurd e3 (by decide)
  · refine ⟨Fr.setCell (S := fun k => B ≤ k) (Fr.grow (S := fun k => B ≤ k) (hW.mono (fun _ _ e => e.elim)) hgrow (fun k hk e => (h.own.lt k e).1)) (fun _ => h.lo) _ _, fun k c E f hk h1 h2 => ?_⟩
    have hkl := (Array.getElem?_eq_some_iff.1 hk).1
    have hkw : k ≠ wb := fun e => by
      rw [e, h.box] at hk
      injection hk with hk
      injection hk with _ hk
      exact h2 hk.symm
    have hkv : some k ≠ v.ownBlock := fun e => by
      rcases h.own.2 with ⟨ev, _⟩ | ⟨g', cap', cur, e1, _, e3, _⟩
      · rw [ev] at e; cases e
      · rw [e1] at e
        have e : k = g' := by simpa [Value.ownBlock] using e
        rw [e, e3] at hk
        injection hk with hk
        injection hk with _ hk
        exact h1 hk.symm
    rw [heap_setCell_other _ _ _ _ hkw, hgrow.block k (by omega) hkv, hW.block k hkl (fun e => e)]
    exact hk

end Go.Proofs.Ytilcigjhogcjkaa
