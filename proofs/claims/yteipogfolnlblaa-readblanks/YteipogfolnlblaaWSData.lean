/-
  What is proved here: data as trees, how they lie in memory, and how they are written; no walk.
-/
import Derived.Test.YteipogfolnlblaaWQC
import Derived.Deep.RegionHeld3
import Derived.Deep.AppendLies
import Derived.Deep.QuietTactic
import Derived.BigQuiet
import Derived.Deep.RegionWith
import Derived.Maps.AppendAt
import Derived.Lib.UnsafeStr
namespace Go.Proofs.Yteipogfolnlblaa
open Go Go.RowKit
/-- Data of at most that height: kind, number, sign, limbs, bytes, items, rest. -/
def Tr : Nat → Type
  | 0 => Empty
  | h + 1 => Int × Int × Bool × List Nat × ByteArray × List (Tr h) × List (Tr h)

/-- A row of things, each of seven cells, that a slice value names; P tells what the cells of one say. -/
def RowD {α : Type} (w : World) (P : α → List Value → Prop) (v : Value) (I : List α) : Prop :=
  ∃ ao cap, v = .slice ao I.length cap ∧ I.length ≤ cap ∧ cap ≤ 9223372036854775807 ∧
    (I.length = 0 ∨ ∃ b off, ao = some ⟨b, off, none⟩ ∧ ∀ i (hi : i < I.length), ∃ cs : List Value, cs.length = 7 ∧ (∀ j, j < 7 → w.cell? ⟨b, off + i * 7 + j, none⟩ = cs[j]?) ∧ P I[i] cs)

/-- What seven cells say. -/
def DatC (w : World) : (h : Nat) → Tr h → List Value → Prop
  | 0, _, _ => False
  | h + 1, (k, n, b, L, t, I, R), cs => ∃ um ui ur, cs = [.int .i64 k, .int .i64 n, .bool b, um, .string t, ui, ur] ∧ (-9223372036854775808 ≤ n ∧ n ≤ 9223372036854775807) ∧
      Sl .u32 w um L.length (fun i => L.getD i 0) ∧ (∀ i, i < L.length → L.getD i 0 < 4294967296) ∧ RowD w (DatC w h) ui I ∧ RowD w (DatC w h) ur R

theorem RowD.up {α : Type} {w w' : World} {P P' : α → List Value → Prop} {v : Value} {I : List α} (h : RowD w P v I) (u : Up w w') (hP : ∀ a cs, P a cs → P' a cs) : RowD w' P' v I := by
  obtain ⟨ao, cap, rfl, h1, h2, h3⟩ := h
  refine ⟨ao, cap, rfl, h1, h2, ?_⟩
  rcases h3 with h3 | ⟨b, off, rfl, h3⟩
  · exact .inl h3
  · refine .inr ⟨b, off, rfl, fun i hi => ?_⟩
    obtain ⟨cs, k1, k2, k3⟩ := h3 i hi
    have k0 := k2 0 (by decide)
    have hl : b < w.heap.size := by
      have : cs[0]? = some (cs[0]'(by omega)) := List.getElem?_eq_getElem (by omega)
      rw [this] at k0
      exact World.block_lt_of_cell? w _ k0
    exact ⟨cs, k1, fun j hj => (u.cell (p := ⟨b, off + i * 7 + j, none⟩) hl).trans (k2 j hj), hP _ _ k3⟩

theorem DatC.up {w w' : World} : {h : Nat} → {d : Tr h} → {cs : List Value} → DatC w h d cs → Up w w' → DatC w' h d cs
  | 0, _, _, h, _ => h.elim
  | h + 1, (k, n, b, L, t, I, R), cs, hd, u => by
    obtain ⟨um, ui, ur, e, h0, h1, h2, h3, h4⟩ := hd
    exact ⟨um, ui, ur, e, h0, h1.below u (Nat.le_refl _), h2, h3.up u (fun a cs h => DatC.up h u), h4.up u (fun a cs h => DatC.up h u)⟩

theorem RowD.upD {w w' : World} {h : Nat} {v : Value} {I : List (Tr h)} (hr : RowD w (DatC w h) v I) (u : Up w w') : RowD w' (DatC w' h) v I :=
  hr.up u fun _ _ h => h.up u

/-- The first of a row. -/
theorem RowD.head {α : Type} {w : World} {P : α → List Value → Prop} {v : Value} {a : α} {I : List α} (h : RowD w P v (a :: I)) :
    ∃ b off cap, v = .slice (some ⟨b, off, none⟩) (I.length + 1) cap ∧ I.length + 1 ≤ cap ∧ cap ≤ 9223372036854775807 ∧ (∃ cs : List Value, cs.length = 7 ∧ (∀ j, j < 7 → w.cell? ⟨b, off + j, none⟩ = cs[j]?) ∧ P a cs) ∧
      ∀ ao' cap', I.length ≤ cap' → cap' ≤ 9223372036854775807 → (I.length = 0 ∨ ao' = some ⟨b, off + 7, none⟩) → RowD w P (.slice ao' I.length cap') I := by
  obtain ⟨ao, cap, rfl, h1, h2, h3⟩ := h
  rcases h3 with h3 | ⟨b, off, rfl, h3⟩
  · simp at h3
  · refine ⟨b, off, cap, rfl, h1, h2, ?_, fun ao' cap' g1 g2 g3 => ?_⟩
    · obtain ⟨cs, k1, k2, k3⟩ := h3 0 (by simp)
      exact ⟨cs, k1, fun j hj => by have := k2 j hj; simpa using this, k3⟩
    · refine ⟨ao', cap', rfl, g1, g2, ?_⟩
      rcases g3 with g3 | g3
      · exact .inl g3
      · refine .inr ⟨b, off + 7, g3, fun i hi => ?_⟩
        obtain ⟨cs, k1, k2, k3⟩ := h3 (i + 1) (by simp; omega)
        refine ⟨cs, k1, fun j hj => ?_, ?_⟩
        · have := k2 j hj
          rw [show off + (i + 1) * 7 + j = off + 7 + i * 7 + j by omega] at this
          exact this
        · simpa using k3

theorem RowD.shape {α : Type} {w : World} {P : α → List Value → Prop} {v : Value} {I : List α} (h : RowD w P v I) : ∃ ao cap, v = .slice ao I.length cap := by
  obtain ⟨ao, cap, e, -⟩ := h
  exact ⟨ao, cap, e⟩

/-- One of a row. -/
theorem RowD.get {α : Type} {w : World} {P : α → List Value → Prop} {ao : Option Addr} {n cap : Nat} {I : List α} (h : RowD w P (.slice ao n cap) I) {i : Nat} (hi : i < I.length) :
    n = I.length ∧ ∃ b off, ao = some ⟨b, off, none⟩ ∧ ∃ cs : List Value, cs.length = 7 ∧ (∀ j, j < 7 → w.cell? ⟨b, off + i * 7 + j, none⟩ = cs[j]?) ∧ P I[i] cs := by
  obtain ⟨ao, cap, e, h1, h2, h3⟩ := h
  cases e
  rcases h3 with h3 | ⟨b, off, rfl, h3⟩
  · omega
  · exact ⟨rfl, b, off, rfl, h3 i hi⟩

def hexd (v : Nat) : UInt8 := if v < 10 then (48 + v).toUInt8 else (87 + v).toUInt8

def two (v : Nat) : List UInt8 := [hexd (v / 16), hexd (v % 16)]

/-- A byte between quotes. -/
def tbW (b : UInt8) : List UInt8 :=
  if b = 34 ∨ b = 92 then [92, b] else if b = 10 then [92, 110] else if b = 9 then [92, 116] else if b < 32 ∨ 126 < b then 92 :: 120 :: (two b.toNat ++ [59]) else [b]

def tsW (l : List UInt8) : List UInt8 := l.flatMap tbW

/-- What is written of a character behind its mark. -/
def chW (n : Int) : List UInt8 :=
  if n = 32 then [115, 112, 97, 99, 101] else if n = 10 then [110, 101, 119, 108, 105, 110, 101] else if n = 9 then [116, 97, 98] else if n = 0 then [110, 117, 108]
  else if 32 < n ∧ n ≤ 126 then [(n % 256).toNat.toUInt8] else 120 :: two (n % 256).toNat

/-- A whole number's digits. -/
noncomputable def ztx (X : Int) : List UInt8 := open Classical in if h : ∃ s, SaysZ s X then (Classical.choose h).data.toList else []

/-- Items, the first one behind g, the others behind a blank. -/
def its {α : Type} (f : α → List UInt8) : List UInt8 → List α → List UInt8
  | _, [] => []
  | g, d :: l => g ++ f d ++ its f [32] l

/-- What stands behind a dot. -/
def dotW {α : Type} (f : α → List UInt8) : List α → List UInt8
  | [] => []
  | d :: _ => [32, 46, 32] ++ f d

noncomputable def wr : (h : Nat) → Bool → Tr h → List UInt8
  | 0, _, _ => []
  | h + 1, sh, (k, n, b, L, t, I, R) =>
    if k = 1 then ztx (sgn b (num 4294967296 (fun i => L.getD i 0) L.length))
    else if k = 2 then (if n = 1 then [35, 116] else [35, 102])
    else if k = 3 then (if sh then [(n % 256).toNat.toUInt8] else [35, 92] ++ chW n)
    else if k = 4 then (if sh then t.data.toList else [34] ++ tsW t.data.toList ++ [34])
    else if k = 5 then t.data.toList
    else if k = 6 then (match I, R with
      | [], r :: _ => wr h sh r
      | I, R => [40] ++ its (wr h sh) [] I ++ dotW (wr h sh) R ++ [41])
    else if k = 7 then [35, 40] ++ its (wr h sh) [] I ++ [41]
    else if k = 9 then [35, 60, 112, 114, 111, 99, 101, 100, 117, 114, 101, 62]
    else if k = 10 then [35, 60, 99, 111, 110, 100, 105, 116, 105, 111, 110, 32] ++ t.data.toList ++ its (wr h false) [32] I ++ [62]
    else [35, 60, 118, 111, 105, 100, 62]

/-- How much there is of a datum. -/
def bk : (h : Nat) → Tr h → Nat
  | 0, _ => 0
  | h + 1, (_, _, _, L, t, I, R) => 2 + L.length + t.size + (I.map (bk h)).sum + (R.map (bk h)).sum

theorem bytes_len (s : ByteArray) : s.data.toList.length = s.size := Array.length_toList

end Go.Proofs.Yteipogfolnlblaa
