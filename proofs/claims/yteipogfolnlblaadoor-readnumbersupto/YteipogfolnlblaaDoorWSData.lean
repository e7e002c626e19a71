/-
  What is proved here: data as trees, how they lie in memory, and how they are written; no walk.
-/
import Derived.Test.YteipogfolnlblaaDoorWQC
import Derived.Deep.RegionHeld3
import Derived.Deep.AppendLies
import Derived.Deep.QuietTactic
import Derived.BigQuiet
import Derived.Deep.RegionWith
import Derived.Maps.AppendAt
import Derived.Lib.UnsafeStr
namespace Go.Proofs.YteipogfolnlblaaDoor
open Go Go.RowKit
/-- Data of at most that height: kind, number, sign, limbs, bytes, items, rest. -/
def Tr : Nat → Type
  | 0 => Empty
  | h + 1 => Int × Int × Bool × List Nat × ByteArray × List (Tr h) × List (Tr h)

/-- A row of things, each of seven cells, that a slice value names; P tells what the cells of one say. -/
def RowD {α : Type} (w : World) (P : α → List Value → Prop) (v : Value) (I : List α) : Prop :=
  ∃ ao cap, v = .slice ao I.length cap ∧ I.length ≤ cap ∧ cap ≤ 9223372036854775807 ∧
    (I.length = 0 ∨ ∃ b off, ao = some ⟨b, off, none⟩ ∧ ∀ i (hi : i < I.length), ∃ cs : List Value, cs.length = 7 ∧ (∀ j, j < 7 → w.cell? ⟨b, off + i * 7 + j, none⟩ = cs[j]?) ∧ P I[i] cs)

/-- What seven cells say. -/
def DatC (w : World) : (h : Nat) → Tr h → List Value → Prop
  | 0, _, _ => False
  | h + 1, (k, n, b, L, t, I, R), cs => ∃ um ui ur, cs = [.int .i64 k, .int .i64 n, .bool b, um, .string t, ui, ur] ∧ (-9223372036854775808 ≤ n ∧ n ≤ 9223372036854775807) ∧
      Sl .u32 w um L.length (fun i => L.getD i 0) ∧ (∀ i, i < L.length → L.getD i 0 < 4294967296) ∧ RowD w (DatC w h) ui I ∧ RowD w (DatC w h) ur R

theorem RowD.up {α : Type} {w w' : World} {P P' : α → List Value → Prop} {v : Value} {I : List α} (h : RowD w P v I) (u : Up w w') (hP : ∀ a cs, P a cs → P' a cs) : RowD w' P' v I := by
  obtain ⟨ao, cap, rfl, h1, h2, h3⟩ := h
  refine ⟨ao, cap, rfl, h1, h2, ?_⟩
  rcases h3 with h3 | ⟨b, off, rfl, h3⟩
  · exact .inl h3
  · refine .inr ⟨b, off, rfl, fun i hi => ?_⟩
    obtain ⟨cs, k1, k2, k3⟩ := h3 i hi
    have k0 := k2 0 (by decide)
    have hl : b < w.heap.size := by
      have : cs[0]? = some (cs[0]'(by omega)) := List.getElem?_eq_getElem (by omega)
      rw [this] at k0
      exact World.block_lt_of_cell? w _ k0
    exact ⟨cs, k1, fun j hj => (u.cell (p := ⟨b, off + i * 7 + j, none⟩) hl).trans (k2 j hj), hP _ _ k3⟩

theorem DatC.up {w w' : World} : {h : Nat} → {d : Tr h} → {cs : List Value} → DatC w h d cs → Up w w' → DatC w' h d cs
  | 0, _, _, h, _ => h.elim
  | h + 1, (k, n, b, L, t, I, R), cs, hd, u => by
    obtain ⟨um, ui, ur, e, h0, h1, h2, h3, h4⟩ := hd
    exact ⟨um, ui, ur, e, h0, h1.below u (Nat.le_refl _), h2, h3.up u (fun a cs h => DatC.up h u), h4.up u (fun a cs h => DatC.up h u)⟩

theorem RowD.upD {w w' : World} {h : Nat} {v : Value} {I : List (Tr h)} (hr : RowD w (DatC w h) v I) (u : Up w w') : RowD w' (DatC w' h) v I :=
  hr.up u fun _ _ h => h.up u

/-- The first of a row. -/
theorem RowD.head {α : Type} {w : World} {P : α → List Value → Prop} {v : Value} {a : α} {I : List α} (h : RowD w P v (a :: I)) :
    ∃ b off cap, v = .slice (some ⟨b, off, none⟩) (I.length + 1) cap ∧ I.length + 1 ≤ cap ∧ cap ≤ 9223372036854775807 ∧ (∃ cs : List Value, cs.length = 7 ∧ (∀ j, j < 7 → w.cell? ⟨b, off + j, none⟩ = cs[j]?) ∧ P a cs) ∧
      ∀ ao' cap', I.length ≤ cap' → cap' ≤ 9223372036854775807 → (I.length = 0 ∨ ao' = some ⟨b, off + 7, none⟩) → RowD w P (.slice ao' I.length cap') I := by
  obtain ⟨ao, cap, rfl, h1, h2, h3⟩ := h
  rcases h3 with h3 | ⟨b, off, rfl, h3⟩
  · simp at h3
  · refine ⟨b, off, cap, rfl, h1, h2, ?_, fun ao' cap' g1 g2 g3 => ?_⟩
    · obtain ⟨cs, k1, k2, k3⟩ := h3 0 (by simp)
      exact ⟨cs, k1, fun j hj => by have := k2 j hj; simpa using this, k3⟩
    · refine ⟨ao', cap', rfl, g1, g2, ?_⟩
      rcases g3 with g3 | g3
      · exact .inl g3
      · refine .inr ⟨b, off + 7, g3, fun i hi => ?_⟩
        obtain ⟨cs, k1, k2, k3⟩ := h3 (i + 1) (by simp; omega)
        refine ⟨cs, k1, fun j hj => ?_, ?_⟩
        · have := k2 j hj
          rw [show off + (i + 1) * 7 + j = off + 7 + i * 7 + j by omega] at this
          exact this
        · simpa using k3

theorem RowD.shape {α : Type} {w : World} {P : α → List Value → Prop} {v : Value} {I : List α} (h : RowD w P v I) : ∃ ao cap, v = .slice ao I.length cap := by
  obtain ⟨ao, cap, e, -⟩ := h
  exact ⟨ao, cap, e⟩

/-- One of a row. -/
theorem RowD.get {α : Type} {w : World} {P : α → List Value → Prop} {ao : Option Addr} {n cap : Nat} {I : List α} (h : RowD w P (.slice ao n cap) I) {i : Nat} (hi : i < I.length) :
    n = I.length ∧ ∃ b off, ao = some ⟨b, off, none⟩ ∧ ∃ cs : List Value, cs.length = 7 ∧ (∀ j, j < 7 → w.cell? ⟨b, off + i * 7 + j, none⟩ = cs[j]?) ∧ P I[i] cs := by
  obtain ⟨ao, cap, e, h1, h2, h3⟩ := h
  cases e
  rcases h3 with h3 | ⟨b, off, rfl, h3⟩
  · omega
  · exact ⟨rfl, b, off, rfl, h3 i hi⟩

theorem bytes_len (s : ByteArray) : s.data.toList.length = s.size := Array.length_toList

end Go.Proofs.YteipogfolnlblaaDoor
