/-
  What is proved here: a store's symbols in memory; no walk.
-/
import Derived.Test.YtchdfenickjiiaaVKnown
import Derived.Test.YtchdfenickjiiaaVText2
import Derived.Test.YtchdfenickjiiaaVClone
import Derived.Lib.ConvBytes
import Derived.Maps.OwnSet
import Derived.Maps.OwnOps
import Derived.Maps.Views
namespace Go.Proofs.Ytchdfenickjiiaa
open Go Go.RowKit

def keyL (s : ByteArray) : Lit := .string s.data.toList
theorem keyL_ne {s t : ByteArray} (h : s ≠ t) : keyL s ≠ keyL t := fun e => by
  have e2 : s.data.toList = t.data.toList := by simpa [keyL] using e
  exact h (ByteArray.ext (Array.toList_inj.1 e2))
theorem keyL_key (s : ByteArray) : WideAt.IsKeyLit (keyL s) := by unfold keyL; trivial
/-- The map knows just the first m names, and their places. -/
structure Knows (D : DataW Unit) (m : Nat) (nm : Nat → ByteArray) : Prop where
  isMap : Maps.IsMap D
  only : ∀ s, Maps.has D (keyL s) = true → ∃ i, i < m ∧ nm i = s
  has : ∀ i, i < m → Maps.has D (keyL (nm i)) = true
  at' : ∀ i, i < m → D.atKey (keyL (nm i)) (.lit (.int .i64 0)) = .lit (.int .i64 (i : Int))
theorem Knows.none (nm : Nat → ByteArray) : Knows (.map []) 0 nm := ⟨Maps.isMap_empty, (fun s h => by cases h), (fun i h => by omega), (fun i h => by omega)⟩
def updB (nm : Nat → ByteArray) (m : Nat) (s : ByteArray) : Nat → ByteArray := fun i => if i = m then s else nm i
theorem Knows.put {D : DataW Unit} {m : Nat} {nm : Nat → ByteArray} (h : Knows D m nm) {s : ByteArray} (hs : ∀ i, i < m → nm i ≠ s) : Knows (D.put (keyL s) (.lit (.int .i64 (m : Int)))) (m + 1) (updB nm m s) := by
  refine ⟨h.isMap.put _ _, fun t ht => ?_, fun i hi => ?_, fun i hi => ?_⟩
  · by_cases e : t = s
    · exact ⟨m, by omega, by simp [updB, e]⟩
    · rw [Maps.has_put_other (keyL_ne e)] at ht
      obtain ⟨i, h1, h2⟩ := h.only t ht
      exact ⟨i, by omega, by simp [updB, show i ≠ m by omega, h2]⟩
  · by_cases e : i = m
    · simp only [updB, e, if_true]
      exact Maps.has_put_same h.isMap (keyL_key s) _
    · have hn := hs i (by omega)
      simp only [updB, e, if_false]
      rw [Maps.has_put_other (keyL_ne hn)]
      exact h.has i (by omega)
  · by_cases e : i = m
    · simp only [updB, e]
      exact Maps.atKey_put_same h.isMap (keyL_key s) _ _
    · have hn := hs i (by omega)
      simp only [updB, e, if_false]
      rw [Maps.atKey_put_other (keyL_ne hn)]
      exact h.at' i (by omega)
theorem Knows.miss {D : DataW Unit} {m : Nat} {nm : Nat → ByteArray} (h : Knows D m nm) {s : ByteArray} (hs : ∀ i, i < m → nm i ≠ s) : Maps.has D (keyL s) = false := by
  cases e : Maps.has D (keyL s) with
  | false => rfl
  | true => obtain ⟨i, h1, h2⟩ := h.only s e; exact absurd h2 (hs i h1)

theorem strKeyed : Maps.Keyed Try.prog 9 := Maps.string_keyed Try.underlying9
theorem zeroI (w : World) : (zeroValue 3).run Try.prog w = .ok (.int .i64 0) w := by kernel_rfl
theorem keyS {s : ByteArray} (hs : s.size ≤ maxLen) : keyOf Try.prog 9 (.string s) = some (keyL s) := WideMaps.keyOf_string_mk Try.underlying9 hs

/-- A store with m symbols: their words, their names. -/
structure SymIn (w : World) (sb hb : Nat) (X : Nat → Prop) (vS : Value) (mb m : Nat) (sw : Nat → Nat) (nm : Nat → ByteArray) (sz : Nat) (tm : Int) (n : Nat) (f : Nat → Nat) (st : Nat → Bool) : Prop where
  S : StoreAt w sb hb X vS mb tm sz tm n f st
  words : Own .u64 22 w 0 vS m sw
  vX : ∀ g, vS.ownBlock = some g → ¬ X g ∧ g ≠ sb ∧ g ≠ mb
  map : ∃ D : DataW Unit, w.ownsMap Try.prog 9 (plainElem Try.prog 3) mb m D ∧ Knows D m nm
  mn : m ≤ n

theorem ownsMap_block {H : Type} {P : Program} {k : TypeId} {R : Value → Option (DataW H × List MemPlace)} {w w' : World} {b n : Nat} {D : DataW H} (h : w.ownsMap P k R b n D) (e : w'.heap[b]? = w.heap[b]?) : w'.ownsMap P k R b n D := by
  obtain ⟨es, c, h1, h2, h3, h4⟩ := h
  exact ⟨es, c, e.trans h1, h2, h3, h4⟩
/-- The blocks of a store. -/
def storeX (sb : Nat) (X : Nat → Prop) (vS : Value) (mb k : Nat) : Prop := X k ∨ k = sb ∨ k = mb ∨ vS.ownBlock = some k
theorem StoreAt.fr {S' : Nat → Prop} {w w2 : World} {sb hb : Nat} {X : Nat → Prop} {vS : Value} {mb : Nat} {ts : Int} {sz : Nat} {tm : Int} {n : Nat} {f : Nat → Nat} {st : Nat → Bool} (h : StoreAt w sb hb X vS mb ts sz tm n f st) (hf : Fr S' w w2) (hs : ∀ k, X k → ¬ S' k) (hsb : ¬ S' sb) : StoreAt w2 sb hb X vS mb ts sz tm n f st :=
  ⟨(hf.block sb (Array.getElem?_eq_some_iff.1 h.blk).1 hsb).trans h.blk, h.H.fr hf hs, h.sX, h.mX, h.ms, Nat.lt_of_lt_of_le h.ml hf.size⟩
theorem SymIn.fr {S' : Nat → Prop} {w w2 : World} {sb hb : Nat} {X : Nat → Prop} {vS : Value} {mb m : Nat} {sw : Nat → Nat} {nm : Nat → ByteArray} {sz : Nat} {tm : Int} {n : Nat} {f : Nat → Nat} {st : Nat → Bool} (h : SymIn w sb hb X vS mb m sw nm sz tm n f st) (hf : Fr S' w w2) (hs : ∀ k, storeX sb X vS mb k → ¬ S' k) : SymIn w2 sb hb X vS mb m sw nm sz tm n f st := by
  obtain ⟨D, h1, h2⟩ := h.map
  exact ⟨h.S.fr hf (fun k hk => hs k (.inl hk)) (hs sb (.inr (.inl rfl))), h.words.fr hf (fun g hg => hs g (.inr (.inr (.inr hg)))), h.vX, ⟨D, ownsMap_block h1 (hf.block mb h.S.ml (hs mb (.inr (.inr (.inl rfl))))), h2⟩, h.mn⟩
theorem SymIn.drewN {w : World} {sb hb : Nat} {X : Nat → Prop} {vS : Value} {mb m : Nat} {sw : Nat → Nat} {nm : Nat → ByteArray} {sz : Nat} {tm : Int} {n : Nat} {f : Nat → Nat} {st : Nat → Bool} (h : SymIn w sb hb X vS mb m sw nm sz tm n f st) (q : Nat) : SymIn (w.drewN q) sb hb X vS mb m sw nm sz tm n f st :=
  h.fr (S' := fun _ => False) ((Fr.refl _ _).drewN q) (fun _ _ e => e)

end Go.Proofs.Ytchdfenickjiiaa
