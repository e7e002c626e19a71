/-
  What is proved here: how tandemlaw03's On stays in memory behind calls that turn both heaps, and behind a new object that is kept; no walk.
-/
import Derived.Test.YtfeofdeffmnbkaaHBoth
namespace Go.Proofs.Ytfeofdeffmnbkaa
open Go Go.RowKit

theorem apart_grow {A B A2 B2 : Nat → Prop} {s1 s2 : Nat} (hAB : ∀ k, A k → ¬ B k) (hB : ∀ k, B k → k < s1) (GA : Grows s1 A A2) (hA2 : ∀ k, A2 k → k < s2) (GB : Grows s2 B B2) : ∀ k, A2 k → ¬ B2 k := fun k ha hb => by
  rcases GB k hb with e | e
  · rcases GA k ha with e2 | e2
    · exact hAB k e2 e
    · have := hB k e; omega
  · have := hA2 k ha; omega

/-- Both heaps have turned, nothing else of it has. -/
theorem OnIn.turn {w w2 : World} {ob hb : Nat} {X X2 : Nat → Prop} {rb : Nat} {Y Y2 : Nat → Prop} {vO : Value} {sz : Nat} {tm tm2 : Int} {n n2 : Nat} {f f2 : Nat → Nat} {st st2 : Nat → Bool} {m : Nat} {o : Nat → Nat} (h : OnIn w ob hb X rb Y vO sz tm n f st m o)
    (hH : HeapAt w2 hb X2 sz tm2 n2 f2 st2) (hR : RefAt w2 rb Y2 sz tm2 n2 f2 st2) (hF : Fr (fun k => X k ∨ Y k) w w2) (GX : Grows w.heap.size X X2) (GY : Grows w.heap.size Y Y2) (XY : ∀ k, X2 k → ¬ Y2 k) : OnIn w2 ob hb X2 rb Y2 vO sz tm2 n2 f2 st2 m o := by
  have hlt := h.lt
  have out : ∀ g, g < w.heap.size → ¬ X g → ¬ Y g → ¬ X2 g ∧ ¬ Y2 g := fun g hg hx hy => by
    constructor
    · intro e
      rcases GX g e with e | e
      · exact hx e
      · omega
    · intro e
      rcases GY g e with e | e
      · exact hy e
      · omega
  refine ⟨(hF.block ob hlt (fun e => ?_)).trans h.blk, hH, hR, h.O.fr hF (fun g hg e => ?_), (out ob hlt h.oX h.oY).1, (out ob hlt h.oX h.oY).2, fun g hg => ?_, XY, h.ol, h.ml⟩
  · rcases e with e | e
    · exact h.oX e
    · exact h.oY e
  · rcases e with e | e
    · exact (h.vX g hg).1 e
    · exact (h.vX g hg).2.1 e
  · have h2 := h.vX g hg
    have h3 := out g (h.O.block_lt hg) h2.1 h2.2.1
    exact ⟨h3.1, h3.2, h2.2.2⟩

/-- Both heaps are set, the one ahead of the other. -/
theorem OnIn.setHR {w w2 w3 : World} {ob hb : Nat} {X : Nat → Prop} {rb : Nat} {Y : Nat → Prop} {vO : Value} {sz : Nat} {tm : Int} {n : Nat} {f f2 : Nat → Nat} {st : Nat → Bool} {m : Nat} {o : Nat → Nat} (h : OnIn w ob hb X rb Y vO sz tm n f st m o)
    (F2 : Fr X w.drew w2) (H2 : HeapAt w2 hb X sz tm n f2 st) (F3 : Fr Y w2 w3) (R3 : RefAt w3 rb Y sz tm n f2 st) : OnIn w3 ob hb X rb Y vO sz tm n f2 st m o ∧ Fr (fun k => X k ∨ Y k) w w3 := by
  have hF : Fr (fun k => X k ∨ Y k) w w3 := Fr.trans (Fr.trans ((Fr.refl _ w).drew) F2 (fun _ _ e => .inl e)) F3 (fun _ _ e => .inr e)
  exact ⟨h.turn (H2.fr F3 (fun k hk e => h.XY k hk e)) R3 hF (Grows.refl _ _) (Grows.refl _ _) h.XY, hF⟩
theorem OnIn.setRH {w w2 w3 : World} {ob hb : Nat} {X : Nat → Prop} {rb : Nat} {Y : Nat → Prop} {vO : Value} {sz : Nat} {tm : Int} {n : Nat} {f f2 : Nat → Nat} {st : Nat → Bool} {m : Nat} {o : Nat → Nat} (h : OnIn w ob hb X rb Y vO sz tm n f st m o)
    (F2 : Fr Y w.drew w2) (R2 : RefAt w2 rb Y sz tm n f2 st) (F3 : Fr X w2 w3) (H3 : HeapAt w3 hb X sz tm n f2 st) : OnIn w3 ob hb X rb Y vO sz tm n f2 st m o ∧ Fr (fun k => X k ∨ Y k) w w3 := by
  have hF : Fr (fun k => X k ∨ Y k) w w3 := Fr.trans (Fr.trans ((Fr.refl _ w).drew) F2 (fun _ _ e => .inr e)) F3 (fun _ _ e => .inl e)
  exact ⟨h.turn H3 (R2.fr F3 (fun k hk e => h.XY k e hk)) hF (Grows.refl _ _) (Grows.refl _ _) h.XY, hF⟩

/-- Both heaps lay an object. -/
theorem OnIn.layHR {w w2 w3 : World} {ob hb : Nat} {X X2 : Nat → Prop} {rb : Nat} {Y Y2 : Nat → Prop} {vO : Value} {sz : Nat} {tm tm2 : Int} {n n2 : Nat} {f f2 : Nat → Nat} {st st2 : Nat → Bool} {m : Nat} {o : Nat → Nat} (h : OnIn w ob hb X rb Y vO sz tm n f st m o)
    (F2 : Fr X w.drew w2) (H2 : HeapAt w2 hb X2 sz tm2 n2 f2 st2) (G2 : Grows w.drew.heap.size X X2) (F3 : Fr Y w2.drew w3) (R3 : RefAt w3 rb Y2 sz tm2 n2 f2 st2) (G3 : Grows w2.drew.heap.size Y Y2) : OnIn w3 ob hb X2 rb Y2 vO sz tm2 n2 f2 st2 m o ∧ Fr (fun k => X k ∨ Y k) w w3 ∧ Grows w.heap.size X X2 ∧ Grows w.heap.size Y Y2 := by
  have F1 : Fr (fun k => X k ∨ Y k) w w2 := Fr.trans ((Fr.refl _ w).drew) F2 (fun _ _ e => .inl e)
  have hF : Fr (fun k => X k ∨ Y k) w w3 := Fr.trans F1.drew F3 (fun _ _ e => .inr e)
  have g3 : Grows w.heap.size Y Y2 := fun k hk => by
    rcases G3 k hk with e | e
    · exact .inl e
    · exact .inr (Nat.le_trans F1.size e)
  have hd := apart_grow h.XY (fun k hk => h.R.lt hk) G2 (fun k hk => H2.lt hk) G3
  refine ⟨h.turn (H2.fr (S := Y) (Fr.trans ((Fr.refl _ w2).drew) F3 (fun _ _ e => e)) (fun k hk e => ?_)) R3 hF G2 g3 hd, hF, G2, g3⟩
  rcases G2 k hk with e2 | e2
  · exact h.XY k e2 e
  · have := h.R.lt e
    exact absurd e2 (Nat.not_le.2 this)
theorem upd_lt {m N x : Nat} {o : Nat → Nat} (h : ∀ i, i < m → o i < N) (hx : x < N) : ∀ i, i < m + 1 → upd o m x i < N := fun i hi => by
  by_cases e : i = m
  · rw [e, upd_same]; exact hx
  · rw [upd_other e]; exact h i (by omega)

/-- The objects are stored anew. -/
theorem OnIn.put {w w2 : World} {ob hb : Nat} {X : Nat → Prop} {rb : Nat} {Y : Nat → Prop} {vO vO2 : Value} {sz : Nat} {tm : Int} {n : Nat} {f : Nat → Nat} {st : Nat → Bool} {m m2 : Nat} {o o2 : Nat → Nat} (h : OnIn w ob hb X rb Y vO sz tm n f st m o)
    (hF : Fr (fun k => vO.ownBlock = some k) w w2) (hO : Own .u64 33 w2 0 vO2 m2 o2) (hst : Stays w.heap.size vO vO2) (ol : ∀ i, i < m2 → o2 i < 18446744073709551616) (ml : m2 ≤ 17592186044416) :
    w2.cell? ⟨ob, 2, none⟩ = some vO ∧ w2.frozen? ⟨ob, 2, none⟩ = false ∧ OnIn (w2.setCell ⟨ob, 2, none⟩ vO2) ob hb X rb Y vO2 sz tm n f st m2 o2 := by
  have hlt := h.lt
  have hno : ∀ g, vO.ownBlock = some g → g ≠ ob := fun g hg => (h.vX g hg).2.2
  have hb2 := (hF.block ob hlt (fun e => hno ob e rfl)).trans h.blk
  have hv2 : ∀ g, vO2.ownBlock = some g → ¬ X g ∧ ¬ Y g ∧ g ≠ ob := fun g hg => by
    rcases hst g hg with e | e
    · exact h.vX g e
    · exact ⟨fun e2 => by have := h.H.lt e2; omega, fun e2 => by have := h.R.lt e2; omega, by omega⟩
  have hfr : Fr (fun k => k = ob) w2 (w2.setCell ⟨ob, 2, none⟩ vO2) := Fr.setCell (S := fun k => k = ob) (Fr.refl _ _) (fun _ => rfl) _ _
  refine ⟨by rw [cell_of_row w2 ob _ _ _ _ hb2]; rfl, frozen_of_row w2 ob 2 _ _ hb2, heap_setCell_same w2 ob 2 _ _ _ hb2, (h.H.fr hF (fun k hk e => (h.vX k e).1 hk)).fr hfr (fun k hk e => ?_), (h.R.fr hF (fun k hk e => (h.vX k e).2.1 hk)).fr hfr (fun k hk e => ?_), hO.fr hfr (fun g hg e => (hv2 g hg).2.2 e), h.oX, h.oY, hv2, h.XY, ol, ml⟩
  · rw [e] at hk; exact h.oX hk
  · rw [e] at hk; exact h.oY hk

/-- All of it lies from B on. -/
structure OnAt (B : Nat) (w : World) (ob hb rb sz : Nat) (tm : Int) (n : Nat) (f : Nat → Nat) (st : Nat → Bool) (m : Nat) (o : Nat → Nat) : Prop where
  ex : ∃ X Y vO, OnIn w ob hb X rb Y vO sz tm n f st m o ∧ (∀ k, X k → B ≤ k) ∧ (∀ k, Y k → B ≤ k) ∧ B ≤ ob ∧ ∀ g, vO.ownBlock = some g → B ≤ g

theorem OnAt.below {B : Nat} {w w2 : World} {ob hb rb sz : Nat} {tm : Int} {n : Nat} {f : Nat → Nat} {st : Nat → Bool} {m : Nat} {o : Nat → Nat} (h : OnAt B w ob hb rb sz tm n f st m o) (hF : Fr (fun _ => False) w w2) : OnAt B w2 ob hb rb sz tm n f st m o := by
  obtain ⟨X, Y, vO, h, a, b, c, d⟩ := h
  exact ⟨X, Y, vO, h.fr hF (fun _ _ e => e), a, b, c, d⟩

/-- How a call of a script turns what lies there. -/
def DoStep (sz : Nat) (l : Nat) (tm : Int) (n : Nat) (f : Nat → Nat) (st : Nat → Bool) (m : Nat) (o : Nat → Nat) (tm2 : Int) (n2 : Nat) (f2 : Nat → Nat) (st2 : Nat → Bool) (m2 : Nat) (o2 : Nat → Nat) : Prop :=
  (tm2 = tm ∧ n2 = n ∧ st2 = st ∧ m2 = m ∧ o2 = o ∧ (SetStep f st f2 ∨ RawStep f st f2)) ∨
  (tm2 = tm ∧ ∃ a b, LayStep sz n f st a b n2 f2 st2 ∧ ((b = false ∧ m2 = m ∧ o2 = o) ∨ (b = true ∧ m2 = m + 1 ∧ o2 = upd o m a))) ∨
  (tm2 = tm + 1 ∧ ∃ r, n2 = (collS n f st r (l + 1)).n ∧ f2 = (collS n f st r (l + 1)).f ∧ st2 = (collS n f st r (l + 1)).st ∧ m2 ≤ l + 1 ∧ (∀ i, i < l + 1 → r i < 18446744073709551616) ∧ ∀ i, i < m2 → isPtr st2 (o2 i) = true)

end Go.Proofs.Ytfeofdeffmnbkaa
