/-
  What is proved here: tandemlaw03's On in memory (the program's heap, the document's, and the objects), and its pick.
-/
import Derived.Test.YtfeofdeffmnbkaaHRColl
import Derived.Test.YtfeofdeffmnbkaaHColl
import Derived.Test.YtfeofdeffmnbkaaHSame
namespace Go.Proofs.Ytfeofdeffmnbkaa
open Go Go.RowKit

/-- Both heaps hold the same words; m objects o. -/
structure OnIn (w : World) (ob hb : Nat) (X : Nat → Prop) (rb : Nat) (Y : Nat → Prop) (vO : Value) (sz : Nat) (tm : Int) (n : Nat) (f : Nat → Nat) (st : Nat → Bool) (m : Nat) (o : Nat → Nat) : Prop where
  blk : w.heap[ob]? = some (.cells #[.pointer (some ⟨hb, 0, none⟩), .pointer (some ⟨rb, 0, none⟩), vO] 30 (0, 0))
  H : HeapAt w hb X sz tm n f st
  R : RefAt w rb Y sz tm n f st
  O : Own .u64 33 w 0 vO m o
  oX : ¬ X ob
  oY : ¬ Y ob
  vX : ∀ g, vO.ownBlock = some g → ¬ X g ∧ ¬ Y g ∧ g ≠ ob
  XY : ∀ k, X k → ¬ Y k
  ol : ∀ i, i < m → o i < 18446744073709551616
  ml : m ≤ 17592186044416

theorem OnIn.cells {w : World} {ob hb : Nat} {X : Nat → Prop} {rb : Nat} {Y : Nat → Prop} {vO : Value} {sz : Nat} {tm : Int} {n : Nat} {f : Nat → Nat} {st : Nat → Bool} {m : Nat} {o : Nat → Nat} (h : OnIn w ob hb X rb Y vO sz tm n f st m o) : w.cell? ⟨ob, 0, none⟩ = some (.pointer (some ⟨hb, 0, none⟩)) ∧ w.cell? ⟨ob, 1, none⟩ = some (.pointer (some ⟨rb, 0, none⟩)) ∧ w.cell? ⟨ob, 2, none⟩ = some vO := by
  refine ⟨?_, ?_, ?_⟩
  all_goals
    rw [cell_of_row w ob _ _ _ _ h.blk]
    rfl
theorem OnIn.lt {w : World} {ob hb : Nat} {X : Nat → Prop} {rb : Nat} {Y : Nat → Prop} {vO : Value} {sz : Nat} {tm : Int} {n : Nat} {f : Nat → Nat} {st : Nat → Bool} {m : Nat} {o : Nat → Nat} (h : OnIn w ob hb X rb Y vO sz tm n f st m o) : ob < w.heap.size := (Array.getElem?_eq_some_iff.1 h.blk).1
theorem OnIn.fr {T : Nat → Prop} {w w2 : World} {ob hb : Nat} {X : Nat → Prop} {rb : Nat} {Y : Nat → Prop} {vO : Value} {sz : Nat} {tm : Int} {n : Nat} {f : Nat → Nat} {st : Nat → Bool} {m : Nat} {o : Nat → Nat} (h : OnIn w ob hb X rb Y vO sz tm n f st m o) (hf : Fr T w w2) (hs : ∀ k, (k = ob ∨ X k ∨ Y k ∨ vO.ownBlock = some k) → ¬ T k) : OnIn w2 ob hb X rb Y vO sz tm n f st m o :=
  ⟨(hf.block ob h.lt (hs ob (.inl rfl))).trans h.blk, h.H.fr hf fun k hk => hs k (.inr (.inl hk)), h.R.fr hf fun k hk => hs k (.inr (.inr (.inl hk))), h.O.fr hf fun g hg => hs g (.inr (.inr (.inr hg))), h.oX, h.oY, h.vX, h.XY, h.ol, h.ml⟩

/-- The word that pick answers. -/
def pk (m : Nat) (o : Nat → Nat) (i : Int) : Nat := if m = 0 then 0 else o (i % (m : Int)).toNat
theorem pk_lt {m : Nat} {o : Nat → Nat} (h : ∀ i, i < m → o i < 18446744073709551616) (i : Int) : pk m o i < 18446744073709551616 := by
  unfold pk
  by_cases c : m = 0
  · rw [if_pos c]; decide
  · rw [if_neg c]
    have h1 := Int.emod_nonneg i (show (m : Int) ≠ 0 by omega)
    have h2 := Int.emod_lt_of_pos i (show (0 : Int) < (m : Int) by omega)
    exact h _ (by omega)

set_option maxHeartbeats 4000000 in
theorem pick_any (w : World) (ob hb : Nat) (X : Nat → Prop) (rb : Nat) (Y : Nat → Prop) (vO : Value) (sz : Nat) (tm : Int) (n : Nat) (f : Nat → Nat) (st : Nat → Bool) (m : Nat) (o : Nat → Nat) (i : Int) (h : OnIn w ob hb X rb Y vO sz tm n f st m o) (hi1 : -9223372036854775808 ≤ i) (hi2 : i ≤ 9223372036854775807) :
    Calls Try.prog 16 #[.pointer (some ⟨ob, 0, none⟩), .int .i64 i] w fun e w' => e = .returned (.int .u64 (pk m o i : Int)) ∧ ∃ q, w' = w.drewN q := by
  have hc := h.cells.2.2
  have hml := h.ml
  by_cases h0 : m = 0
  · subst h0
    have hp : pk 0 o i = 0 := rfl
    rw [hp]
    obtain ⟨ao, cap, rfl⟩ := h.O.shape
    clear h
    go_enter Try.func16, Try.ntmps16
    go_wp2
    go_ret
    exact ⟨rfl, 0, rfl⟩
  · have hp : pk m o i = o (i % (m : Int)).toNat := by unfold pk; rw [if_neg h0]
    have h1 := Int.emod_nonneg i (show (m : Int) ≠ 0 by omega)
    have h2 := Int.emod_lt_of_pos i (show (0 : Int) < (m : Int) by omega)
    rw [hp]
    obtain ⟨j, hj⟩ : ∃ j : Nat, (i % (m : Int)).toNat = j := ⟨_, rfl⟩
    have hjm : j < m := by omega
    have KP := fun w1 => place_any i m w1 (by omega) (by omega) hi1 hi2
    rw [hj] at KP ⊢
    obtain ⟨g, cap, rfl, hc1, hc2, hcl⟩ := h.O.rd hjm
    have h0I : ((m : Int) == 0) = false := by rw [beq_eq_false_iff_ne]; omega
    have hjI : (j : Int) < (m : Int) := by omega
    have hj0 : (0 : Int) ≤ (j : Int) := by omega
    clear h hp h1 h2 hj
    go_enter Try.func16, Try.ntmps16
    go_wp2
    go_region_held3 (fun w' => w'.cell? ⟨ob, 2, none⟩ = some (.slice (some ⟨g, 0, none⟩) m cap) ∧ w'.cell? ⟨g, j, none⟩ = some (.int .u64 (o j : Int))) (go_keep)
      ((go_at_call 22; refine (KP _).mono ?_; rintro e w' ⟨rfl, hw⟩; replace hw := hw.symm; subst hw))
    go_wp2
    go_ret
    exact ⟨rfl, 1, rfl⟩

end Go.Proofs.Ytfeofdeffmnbkaa
