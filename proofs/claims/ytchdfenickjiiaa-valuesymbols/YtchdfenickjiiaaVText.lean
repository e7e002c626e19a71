/-
  What is proved here: the variables of Text beside the heap, behind its first statement; no walk.
-/
import Derived.Test.YtchdfenickjiiaaVLeaf
namespace Go.Proofs.Ytchdfenickjiiaa
open Go Go.RowKit

/-- The store's variable s and the text's variable p beside the heap. -/
structure Tx (w wc : World) (sb hb : Nat) (X : Nat → Prop) (Bp : Nat) (X2 : Nat → Prop) (sz : Nat) (tm : Int) (n2 : Nat) (f2 : Nat → Nat) (st2 : Nat → Bool) (p : Nat) : Prop where
  H : HeapAt wc hb X2 sz tm n2 f2 st2
  G : Grows w.heap.size X X2
  F : Fr X w wc
  bs : wc.heap[w.heap.size]? = some (.cells #[.pointer (some ⟨sb, 0, none⟩)] 31 (0, 0))
  bp : wc.heap[Bp]? = some (.cells #[.int .u64 (p : Int)] 22 (0, 0))
  nS : ¬ X2 w.heap.size
  nP : ¬ X2 Bp
  lt : w.heap.size < Bp

theorem Tx.late {w W0 w2 : World} {sb hb : Nat} {X X2 : Nat → Prop} {sz : Nat} {tm : Int} {n2 : Nat} {f2 : Nat → Nat} {st2 : Nat → Bool} {p : Nat} (F0 : Fr (fun _ => False) w W0) (s0 : W0.heap.size = w.heap.size + 1) (b0 : W0.heap[w.heap.size]? = some (.cells #[.pointer (some ⟨sb, 0, none⟩)] 31 (0, 0))) (hX : ∀ k, X k → k < w.heap.size)
    (H2 : HeapAt w2 hb X2 sz tm n2 f2 st2) (G2 : Grows W0.drew.heap.size X X2) (F2 : Fr X W0.drew w2) : Tx w (w2.alloc (.cells #[.int .u64 (p : Int)] 22)) sb hb X w2.heap.size X2 sz tm n2 f2 st2 p := by
  have e : W0.drew.heap.size = W0.heap.size := rfl
  have s2 := F2.size
  rw [e] at G2 s2
  have FA : Fr (fun _ => False) w2 (w2.alloc (.cells #[.int .u64 (p : Int)] 22)) := (Fr.refl _ _).alloc _
  have nS : ¬ X w.heap.size := fun h => by have := hX _ h; omega
  refine ⟨H2.fr FA (fun _ _ e => e), fun k hk => ?_, Fr.trans (Fr.trans (F0.mono fun _ _ e => e.elim).drew F2 (fun _ _ e => e)) FA (fun _ _ e => e.elim), (FA.block _ (by omega) (fun e => e)).trans ((F2.block _ (by rw [e]; omega) nS).trans b0), heap_alloc_new w2 _, fun h => ?_, fun h => ?_, by omega⟩
  · rcases G2 k hk with e | e
    · exact .inl e
    · exact .inr (by omega)
  · rcases G2 _ h with e | e
    · exact nS e
    · omega
  · have := H2.lt h
    omega
theorem Tx.early {w W0 w2 : World} {sb hb : Nat} {X X2 : Nat → Prop} {sz : Nat} {tm : Int} {n2 : Nat} {f2 : Nat → Nat} {st2 : Nat → Bool} {p : Nat} {o : Obj} (F0 : Fr (fun _ => False) w W0) (s0 : W0.heap.size = w.heap.size + 1) (b0 : W0.heap[w.heap.size]? = some (.cells #[.pointer (some ⟨sb, 0, none⟩)] 31 (0, 0))) (hX : ∀ k, X k → k < w.heap.size)
    (H2 : HeapAt w2 hb X2 sz tm n2 f2 st2) (G2 : Grows (W0.drew.alloc o).heap.size X X2) (F2 : Fr X (W0.drew.alloc o) w2) (hq : w2.heap[W0.heap.size]? = some (.cells #[.int .u64 0] 22 (0, 0))) : Tx w (w2.setCell ⟨W0.heap.size, 0, none⟩ (.int .u64 (p : Int))) sb hb X W0.heap.size X2 sz tm n2 f2 st2 p := by
  have e : (W0.drew.alloc o).heap.size = W0.heap.size + 1 := by simp
  have s2 := F2.size
  rw [e] at G2 s2
  have FA : Fr (fun k => k = W0.heap.size) w2 (w2.setCell ⟨W0.heap.size, 0, none⟩ (.int .u64 (p : Int))) := Fr.setCell (S := fun k => k = W0.heap.size) (Fr.refl _ _) (fun _ => rfl) _ _
  have F1 : Fr (fun _ => False) W0 (W0.drew.alloc o) := ((Fr.refl _ W0).drew).alloc _
  have nS : ¬ X w.heap.size := fun h => by have := hX _ h; omega
  have nP : ¬ X2 W0.heap.size := fun h => by
    rcases G2 _ h with e | e
    · have := hX _ e; omega
    · omega
  refine ⟨H2.fr FA (fun k hk e => nP (e ▸ hk)), fun k hk => ?_, Fr.trans (Fr.trans (Fr.trans (F0.mono fun _ _ e => e.elim) F1 (fun _ _ e => e.elim)) F2 (fun _ _ e => e)) FA (fun k hk e => by rw [e] at hk; omega), (FA.block _ (by omega) (by omega)).trans ((F2.block _ (by rw [e]; omega) nS).trans ((F1.block _ (by omega) (fun e => e)).trans b0)), heap_setCell_same w2 _ 0 _ _ _ hq, fun h => ?_, nP, by omega⟩
  · rcases G2 k hk with e | e
    · exact .inl e
    · exact .inr (by omega)
  · rcases G2 _ h with e | e
    · exact nS e
    · omega

end Go.Proofs.Ytchdfenickjiiaa
