/-
  What is proved here: a region that draws its order within a round of a loop over an iterator is walked as anywhere, as long as it defers nothing.
-/
import Derived.RangeFuncNested
import Derived.OrdersIn
import Derived.RangeFuncCalls
import Derived.Deep.RegionHeld3
import Derived.Test.YtchdfenickjiiaaVText
namespace Go.Proofs.Ytchdfenickjiiaa
open Go Go.RowKit

/-- No operation defers. -/
def noDefer (ops : Array Oper) : Bool := ops.all fun o => match o.op with | .defer _ => false | _ => true

theorem noDefer_spec {ops : Array Oper} (h : noDefer ops = true) {i : Nat} {o : Oper} (ho : ops[i]? = some o) (c : Call) : o.op ≠ .defer c := fun e => by
  have := (Array.all_eq_true_iff_forall_mem.1 h) o (Array.mem_of_getElem? ho)
  rw [e] at this
  cases this

theorem opIn_of_op {P : Program} {ops : Array Oper} {Q : Exit → Act → World → Prop} {l n i : Nat} {K K' : Act → World → Prop} {a : Act} {w : World} (hd : noDefer ops = true) (hL : ¬ LetsOut Q) (hK : ∀ a w, K a w → K' a w) (h : wpOp P ops Q i K a w) : wpOpIn (Fence.wide.inRound l) n P ops Q i K' a w := by
  unfold wpOp at h
  unfold wpOpIn
  cases ho : ops[i]? with
  | none => rw [ho] at h; exact hK _ _ h
  | some o =>
    rw [ho] at h
    simp only at h ⊢
    by_cases hw : Region.wanted o (yielded ops a.tmps) = true
    · rw [if_pos hw] at h ⊢
      rcases h with h | h
      · refine ⟨fun _ _ => trivial, ?_⟩
        rw [Oper.semAt_eq _ _ _ (fun c => noDefer_spec hd ho c)]
        unfold Oper.wp at h
        generalize (execOp a.eval o).run P w = r at *
        cases r with
        | ok x w' =>
          cases x with
          | value v => exact hK _ _ h
          | skip => exact hK _ _ h
          | defer d => exact hK _ _ h
          | enter f args =>
            refine ⟨(fun e => by cases e), CallsIn.mono (CallsIn.inRound l (callsIn_wide.2 h)) fun e w'' he => ?_⟩
            cases e with
            | returned v => exact hK _ _ he
            | panicked c => exact he
            | outgrown => exact he
          | row r args =>
            refine ⟨(fun e => by cases e), fun c cs _ => ?_⟩
            obtain ⟨v, w', h1, h2⟩ := h c cs
            exact ⟨v, w', hK _ _ h1, stepsIn_wide.2 h2⟩
          | _ => exact h.elim
        | halt x w' =>
          cases x with
          | panic v => exact h
          | _ => exact h.elim
      · exact absurd h.2 hL
    · rw [if_neg hw] at h ⊢
      exact ⟨fun _ _ => trivial, hK _ _ h⟩

theorem anyIn_of_held {P : Program} {md : Region.Mode} {ops : Array Oper} {Q : Exit → Act → World → Prop} {S : World → Prop} {l n : Nat} (hd : noDefer ops = true) (hL : ¬ LetsOut Q) : ∀ (fuel : Nat) (listed : Array Bool) (a : Act) (w : World), wpAnyH P md ops Q S fuel listed a w → wpAnyIn (Fence.wide.inRound l) n P md ops Q fuel listed a w
  | 0, _, _, _, h => h
  | fuel + 1, _, _, _, h => ⟨h.1, fun i hi => opIn_of_op hd hL (fun a' w' h' => anyIn_of_held hd hL fuel _ a' w' h'.2) (h.2 i hi)⟩

/-- The beginning: S is shown of the world behind the draw, once, and handed on. -/
theorem wpIn_region_heldR {P : Program} {ops : Array Oper} {Q : Exit → Act → World → Prop} {l n id : Nat} {a : Act} {w : World} (S : World → Prop) (hm : P.follows .mixedOrders = true) (hd : noDefer ops = true) (hL : ¬ LetsOut Q) (hS : S w.drew)
    (h : S w.drew → wpAnyH P .any ops Q S ops.size (Array.replicate ops.size false) a w.drew) : (Code.region id ops true).wpIn (Fence.wide.inRound l) n P Q a w :=
  wpIn_region_any hm (anyIn_of_held hd hL _ _ _ _ (h hS))

theorem Own.isCells {k : IntKind} {E : TypeId} {w : World} {base : Nat} {v : Value} {n : Nat} {f : Nat → Nat} (h : Own k E w base v n f) {g : Nat} (hg : v.ownBlock = some g) {x : Obj} (hx : w.heap[g]? = some x) : x.isCells = true := by
  rcases h with ⟨rfl, _⟩ | ⟨b, cap, rfl, _, _, h3⟩
  · cases hg
  · have e : b = g := by simpa [Value.ownBlock] using hg
    subst e
    obtain ⟨cur, hc, _⟩ := h3
    rw [hc] at hx
    cases hx
    rfl
/-- A heap's blocks are cells. -/
theorem HeapAt.isCells {w : World} {hb : Nat} {X : Nat → Prop} {sz : Nat} {tm : Int} {n : Nat} {f : Nat → Nat} {st : Nat → Bool} (h : HeapAt w hb X sz tm n f st) {k : Nat} (hk : X k) {x : Obj} (hx : w.heap[k]? = some x) : x.isCells = true := by
  obtain ⟨i, v, u, v', u', m, s, n', f', m', s', h⟩ := h
  rcases (h.xs k).1 hk with (e | e | e) | e | e
  · rw [e, h.a.blk] at hx; cases hx; rfl
  · exact h.a.ov.isCells e hx
  · exact h.a.ou.isCells e hx
  · exact h.b.ov.isCells e hx
  · exact h.b.ou.isCells e hx
/-- What turns a heap alone keeps what is no cells. -/
theorem Fr.others {w w' : World} {hb : Nat} {X : Nat → Prop} {sz : Nat} {tm : Int} {n : Nat} {f : Nat → Nat} {st : Nat → Bool} (h : HeapAt w hb X sz tm n f st) (F : Fr X w w') : KeepsOthers w w' :=
  ⟨F.size, fun k o hk ho => (F.block k (Array.getElem?_eq_some_iff.1 hk).1 (fun e => by have := h.isCells e hk; rw [ho] at this; cases this)).trans hk⟩
/-- A heap abides what turns no cells. -/
theorem HeapAt.grown {w w' : World} {hb : Nat} {X : Nat → Prop} {sz : Nat} {tm : Int} {n : Nat} {f : Nat → Nat} {st : Nat → Bool} (h : HeapAt w hb X sz tm n f st) {row : Option Nat} (hg : w.grownBy w' row) (hr : ∀ r, row = some r → ∃ o : Obj, w.heap[r]? = some o ∧ o.isCells = false) : HeapAt w' hb X sz tm n f st :=
  h.fr (S := fun k => row = some k) ((Fr.refl _ w).grow hg (fun _ _ e => e)) fun k hk e => by
    obtain ⟨o, h1, h2⟩ := hr k e
    have := h.isCells hk h1
    rw [h2] at this
    cases this

end Go.Proofs.Ytchdfenickjiiaa
