/-
  What is proved here: a store in new memory, as a statement holds it; no walk.
-/
import Derived.Test.YtenkidbimhmkbaaVRoom
namespace Go.Proofs.Ytenkidbimhmkbaa
open Go Go.RowKit

/-- A store with a heap, in new memory. -/
structure St (w w1 : World) (sb hb : Nat) (X : Nat → Prop) (sz n : Nat) (f : Nat → Nat) (st : Nat → Bool) : Prop where
  H : HeapAt w1 hb X sz 0 n f st
  S : w1.cell? ⟨sb, 0, none⟩ = some (.pointer (some ⟨hb, 0, none⟩))
  sX : ¬ X sb
  big : ∀ k, X k → w.heap.size ≤ k
  F : Fr (fun _ => False) w w1
theorem St.fr {w w1 w2 : World} {sb hb : Nat} {X : Nat → Prop} {sz n : Nat} {f : Nat → Nat} {st : Nat → Bool} (h : St w w1 sb hb X sz n f st) (F : Fr (fun _ => False) w1 w2) : St w w2 sb hb X sz n f st :=
  ⟨h.H.fr F (fun _ _ e => e), (F.cell (World.block_lt_of_cell? _ _ h.S) (fun e => e)).trans h.S, h.sX, h.big, Fr.trans h.F F (fun _ _ e => e)⟩
theorem St.turn {w w1 w2 : World} {sb hb : Nat} {X X2 : Nat → Prop} {sz n n2 : Nat} {f f2 : Nat → Nat} {st st2 : Nat → Bool} (h : St w w1 sb hb X sz n f st) (H : HeapAt w2 hb X2 sz 0 n2 f2 st2) (G : Grows w1.heap.size X X2) (F : Fr X w1 w2) : St w w2 sb hb X2 sz n2 f2 st2 := by
  have hsl : sb < w1.heap.size := World.block_lt_of_cell? _ _ h.S
  have s1 := h.F.size
  refine ⟨H, (F.cell hsl h.sX).trans h.S, fun e => ?_, fun k hk => ?_, Fr.trans h.F F (fun k hk e => by have := h.big k e; omega)⟩
  · rcases G sb e with e | e
    · exact h.sX e
    · omega
  · rcases G k hk with e | e
    · exact h.big k e
    · omega

end Go.Proofs.Ytenkidbimhmkbaa
