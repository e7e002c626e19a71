/-
  What is proved here: data as trees, how they lie in memory, and how they are written; no walk. package strings' Builder, as it lies in package show's teller: copyCheck, WriteString, String; show's put. the rows of package show's teller, and what is still to be told of them; show's begin. package show's list. the last row of package show's teller: read, turned, taken away; no walk. package show's goOn, at an item. package show's goOn, at what stands behind a dot; goOn, whatever is left. data that lie in blocks of a kind; no walk. a program's bytes as a function of it, and which may be written; no walk. what a writer holds (package pack), and bytes behind it; no walk. a writer's number, signed, flag, text (package pack). a writer's num (package pack): a number's sign and limbs. tandemlaw00.CopyAll: a row of data in new memory, given tandemlaw00.Copy of one. the statements' own CopyLimbs makes the same limbs in new memory. tandemlaw00.Copy: a datum in new memory.
-/
import Derived.Test.YtilcigjhogcjkaaYRJA
import Derived.Deep.RegionHeld3
import Derived.Deep.AppendLies
import Derived.Deep.QuietTactic
import Derived.BigQuiet
import Derived.Deep.RegionWith
import Derived.Maps.AppendAt
import Derived.Lib.UnsafeStr
import Derived.Lib.AppendStr
import Derived.Lib.Walk
import Derived.Lib.Builder
import Derived.Laws.Externs
import Derived.Deep.RegionLaw
import Derived.Laws.BytesString
import Derived.Deep.LoopGhost
import Derived.Laws.AppendOwnNone
namespace Go.Proofs.Ytilcigjhogcjkaa
open Go Go.RowKit

/-- Data of at most that height: kind, number, sign, limbs, bytes, items, rest. -/
def Tr : Nat → Type
  | 0 => Empty
  | h + 1 => Int × Int × Bool × List Nat × ByteArray × List (Tr h) × List (Tr h)

/-- A row of things, each of seven cells, that a slice value names; P tells what the cells of one say. -/
def RowD {α : Type} (w : World) (P : α → List Value → Prop) (v : Value) (I : List α) : Prop :=
  ∃ ao cap, v = .slice ao I.length cap ∧ I.length ≤ cap ∧ cap ≤ 9223372036854775807 ∧
    (I.length = 0 ∨ ∃ b off, ao = some ⟨b, off, none⟩ ∧ ∀ i (hi : i < I.length), ∃ cs : List Value, cs.length = 7 ∧ (∀ j, j < 7 → w.cell? ⟨b, off + i * 7 + j, none⟩ = cs[j]?) ∧ P I[i] cs)

/-- What seven cells say. -/
def DatC (w : World) : (h : Nat) → Tr h → List Value → Prop
  | 0, _, _ => False
  | h + 1, (k, n, b, L, t, I, R), cs => ∃ um ui ur, cs = [.int .i64 k, .int .i64 n, .bool b, um, .string t, ui, ur] ∧ (-9223372036854775808 ≤ n ∧ n ≤ 9223372036854775807) ∧
      Sl .u32 w um L.length (fun i => L.getD i 0) ∧ (∀ i, i < L.length → L.getD i 0 < 4294967296) ∧ RowD w (DatC w h) ui I ∧ RowD w (DatC w h) ur R

theorem RowD.up {α : Type} {w w' : World} {P P' : α → List Value → Prop} {v : Value} {I : List α} (h : RowD w P v I) (u : Up w w') (hP : ∀ a cs, P a cs → P' a cs) : RowD w' P' v I := by
  obtain ⟨ao, cap, rfl, h1, h2, h3⟩ := h
  refine ⟨ao, cap, rfl, h1, h2, ?_⟩
  rcases h3 with h3 | ⟨b, off, rfl, h3⟩
  · exact .inl h3
  · refine .inr ⟨b, off, rfl, fun i hi => ?_⟩
    obtain ⟨cs, k1, k2, k3⟩ := h3 i hi
    have k0 := k2 0 (by decide)
    have hl : b < w.heap.size := by
      have : cs[0]? = some (cs[0]'(by omega)) := List.getElem?_eq_getElem (by omega)
      rw [this] at k0
      exact World.block_lt_of_cell? w _ k0
    exact ⟨cs, k1, fun j hj => (u.cell (p := ⟨b, off + i * 7 + j, none⟩) hl).trans (k2 j hj), hP _ _ k3⟩

theorem DatC.up {w w' : World} : {h : Nat} → {d : Tr h} → {cs : List Value} → DatC w h d cs → Up w w' → DatC w' h d cs
  | 0, _, _, h, _ => h.elim
  | h + 1, (k, n, b, L, t, I, R), cs, hd, u => by
    obtain ⟨um, ui, ur, e, h0, h1, h2, h3, h4⟩ := hd
    exact ⟨um, ui, ur, e, h0, h1.below u (Nat.le_refl _), h2, h3.up u (fun a cs h => DatC.up h u), h4.up u (fun a cs h => DatC.up h u)⟩

theorem RowD.upD {w w' : World} {h : Nat} {v : Value} {I : List (Tr h)} (hr : RowD w (DatC w h) v I) (u : Up w w') : RowD w' (DatC w' h) v I :=
  hr.up u fun _ _ h => h.up u

theorem RowD.shape {α : Type} {w : World} {P : α → List Value → Prop} {v : Value} {I : List α} (h : RowD w P v I) : ∃ ao cap, v = .slice ao I.length cap := by
  obtain ⟨ao, cap, e, -⟩ := h
  exact ⟨ao, cap, e⟩

/-- One of a row. -/
theorem RowD.get {α : Type} {w : World} {P : α → List Value → Prop} {ao : Option Addr} {n cap : Nat} {I : List α} (h : RowD w P (.slice ao n cap) I) {i : Nat} (hi : i < I.length) :
    n = I.length ∧ ∃ b off, ao = some ⟨b, off, none⟩ ∧ ∃ cs : List Value, cs.length = 7 ∧ (∀ j, j < 7 → w.cell? ⟨b, off + i * 7 + j, none⟩ = cs[j]?) ∧ P I[i] cs := by
  obtain ⟨ao, cap, e, h1, h2, h3⟩ := h
  cases e
  rcases h3 with h3 | ⟨b, off, rfl, h3⟩
  · omega
  · exact ⟨rfl, b, off, rfl, h3 i hi⟩

theorem Up.old {w w' : World} (u : Up w w') {g : Nat} {o : Obj} (h : w.heap[g]? = some o) : w'.heap[g]? = some o :=
  (u.block g (Array.getElem?_eq_some_iff.1 h).1).trans h

theorem RowD.one {α : Type} {w : World} {P : α → List Value → Prop} {a : α} {I : List α} {b off cap : Nat} (h : RowD w P (.slice (some ⟨b, off, none⟩) (I.length + 1) cap) (a :: I)) : RowD w P (.slice (some ⟨b, off, none⟩) 1 cap) [a] := by
  obtain ⟨ao, cap', e, h1, h2, h3⟩ := h
  cases e
  refine ⟨_, _, rfl, by simp at *; omega, h2, ?_⟩
  rcases h3 with h3 | ⟨b', off', e, h3⟩
  · simp at h3
  · refine .inr ⟨b', off', e, fun i hi => ?_⟩
    have hi0 : i = 0 := by simp at hi; omega
    subst hi0
    exact h3 0 (by simp)

theorem RowD.nil' {α : Type} (w : World) (P : α → List Value → Prop) : RowD w P (.slice none 0 0) ([] : List α) := ⟨none, 0, rfl, Nat.le_refl _, by decide, .inl rfl⟩

theorem cells7 {w1 : World} {g : Nat} {c0 c1 c2 c3 c4 c5 c6 : Value} {E : TypeId} {f : Nat × Nat} (h : w1.heap[g]? = some (.cells #[c0, c1, c2, c3, c4, c5, c6] E f)) : w1.cell? ⟨g, 0, none⟩ = some c0 ∧ w1.cell? ⟨g, 1, none⟩ = some c1 ∧ w1.cell? ⟨g, 2, none⟩ = some c2 ∧ w1.cell? ⟨g, 3, none⟩ = some c3 ∧ w1.cell? ⟨g, 4, none⟩ = some c4 ∧ w1.cell? ⟨g, 5, none⟩ = some c5 ∧ w1.cell? ⟨g, 6, none⟩ = some c6 :=
  ⟨cell_of_row w1 g 0 _ E f h, cell_of_row w1 g 1 _ E f h, cell_of_row w1 g 2 _ E f h, cell_of_row w1 g 3 _ E f h, cell_of_row w1 g 4 _ E f h, cell_of_row w1 g 5 _ E f h, cell_of_row w1 g 6 _ E f h⟩

/-- Seven cells of a datum that lay there. -/
theorem dat_cells {w0 W : World} {h : Nat} {d : Tr h} {b off : Nat} {cs : List Value} (hl : cs.length = 7) (hc : ∀ j, j < 7 → w0.cell? ⟨b, off + j, none⟩ = cs[j]?) (hd : DatC w0 h d cs) (u : Up w0 W) :
    ∃ k n bb um t ui ur, cs = [.int .i64 k, .int .i64 n, .bool bb, um, .string t, ui, ur] ∧ (∃ ao l cap, um = .slice ao l cap) ∧ (∃ ao l cap, ui = .slice ao l cap) ∧ (∃ ao l cap, ur = .slice ao l cap) ∧
      W.cell? ⟨b, off, none⟩ = some (.int .i64 k) ∧ W.cell? ⟨b, off + 1, none⟩ = some (.int .i64 n) ∧ W.cell? ⟨b, off + 2, none⟩ = some (.bool bb) ∧ W.cell? ⟨b, off + 3, none⟩ = some um ∧ W.cell? ⟨b, off + 4, none⟩ = some (.string t) ∧ W.cell? ⟨b, off + 5, none⟩ = some ui ∧ W.cell? ⟨b, off + 6, none⟩ = some ur := by
  match h, d, hd with
  | 0, _, hd => exact hd.elim
  | h + 1, (k, n, bb, L, t, I, R), hd =>
    obtain ⟨um, ui, ur, rfl, -, hM, -, hI, hR⟩ := hd
    obtain ⟨a1, c1, rfl, -⟩ := hM
    obtain ⟨a2, c2, rfl⟩ := hI.shape
    obtain ⟨a3, c3, rfl⟩ := hR.shape
    have hb : b < w0.heap.size := World.block_lt_of_cell? w0 _ (hc 0 (by decide))
    have key : ∀ j, j < 7 → W.cell? ⟨b, off + j, none⟩ = _ := fun j hj => (u.cell (p := ⟨b, off + j, none⟩) hb).trans (hc j hj)
    exact ⟨_, _, _, _, _, _, _, rfl, ⟨_, _, _, rfl⟩, ⟨_, _, _, rfl⟩, ⟨_, _, _, rfl⟩, key 0 (by decide), key 1 (by decide), key 2 (by decide), key 3 (by decide), key 4 (by decide), key 5 (by decide), key 6 (by decide)⟩

/-- Where a slice value lies, if it has n things. -/
def VQ (Q : Nat → Prop) (v : Value) (n : Nat) : Prop := n = 0 ∨ ∃ a l c, v = .slice (some a) l c ∧ Q a.block

/-- Data in blocks of Q. -/
def DatQ (Q : Nat → Prop) (w : World) : (h : Nat) → Tr h → List Value → Prop
  | 0, _, _ => False
  | h + 1, (k, n, b, L, t, I, R), cs => ∃ um ui ur, cs = [.int .i64 k, .int .i64 n, .bool b, um, .string t, ui, ur] ∧ (-9223372036854775808 ≤ n ∧ n ≤ 9223372036854775807) ∧
      Sl .u32 w um L.length (fun i => L.getD i 0) ∧ (∀ i, i < L.length → L.getD i 0 < 4294967296) ∧ RowD w (DatQ Q w h) ui I ∧ RowD w (DatQ Q w h) ur R ∧ VQ Q um L.length ∧ VQ Q ui I.length ∧ VQ Q ur R.length

theorem RowD.mono {α : Type} {w : World} {P P' : α → List Value → Prop} {v : Value} {I : List α} (h : RowD w P v I) (hP : ∀ a cs, P a cs → P' a cs) : RowD w P' v I := by
  obtain ⟨ao, cap, rfl, h1, h2, h3⟩ := h
  refine ⟨ao, cap, rfl, h1, h2, ?_⟩
  rcases h3 with h3 | ⟨b, off, rfl, h3⟩
  · exact .inl h3
  · refine .inr ⟨b, off, rfl, fun i hi => ?_⟩
    obtain ⟨cs, k1, k2, k3⟩ := h3 i hi
    exact ⟨cs, k1, k2, hP _ _ k3⟩

theorem DatQ.dat {Q : Nat → Prop} {w : World} : {h : Nat} → {d : Tr h} → {cs : List Value} → DatQ Q w h d cs → DatC w h d cs
  | 0, _, _, h => h.elim
  | h + 1, (k, n, b, L, t, I, R), cs, hd => by
    obtain ⟨um, ui, ur, e, h0, h1, h2, h3, h4, -⟩ := hd
    exact ⟨um, ui, ur, e, h0, h1, h2, h3.mono (fun _ _ h => h.dat), h4.mono (fun _ _ h => h.dat)⟩

theorem VQ.mono {Q Q' : Nat → Prop} {v : Value} {n : Nat} (h : VQ Q v n) (hQ : ∀ k, Q k → Q' k) : VQ Q' v n := by
  rcases h with h | ⟨a, l, c, e, h⟩
  · exact .inl h
  · exact .inr ⟨a, l, c, e, hQ _ h⟩

theorem RowD.blk {α : Type} {Q : Nat → Prop} {w w' : World} {P P' : α → List Value → Prop} {v : Value} {I : List α} (h : RowD w P v I) (hv : VQ Q v I.length) (hw : ∀ k, k < w.heap.size → Q k → w'.heap[k]? = w.heap[k]?) (hP : ∀ a cs, P a cs → P' a cs) : RowD w' P' v I := by
  obtain ⟨ao, cap, rfl, h1, h2, h3⟩ := h
  refine ⟨ao, cap, rfl, h1, h2, ?_⟩
  rcases h3 with h3 | ⟨b, off, rfl, h3⟩
  · exact .inl h3
  · rcases hv with hv | ⟨a, l, c, e, hq⟩
    · exact .inl hv
    · cases e
      refine .inr ⟨b, off, rfl, fun i hi => ?_⟩
      obtain ⟨cs, k1, k2, k3⟩ := h3 i hi
      have k0 := k2 0 (by decide)
      have hl : b < w.heap.size := by
        have : cs[0]? = some (cs[0]'(by omega)) := List.getElem?_eq_getElem (by omega)
        rw [this] at k0
        exact World.block_lt_of_cell? w _ k0
      exact ⟨cs, k1, fun j hj => (World.cell?_of_block (w := w) (hw b hl hq)).trans (k2 j hj), hP _ _ k3⟩

theorem Sl.blk {Q : Nat → Prop} {k : IntKind} {w w' : World} {v : Value} {n : Nat} {f : Nat → Nat} (h : Sl k w v n f) (hv : VQ Q v n) (hw : ∀ k, k < w.heap.size → Q k → w'.heap[k]? = w.heap[k]?) : Sl k w' v n f := by
  obtain ⟨ao, cap, rfl, h1, h2, h0, h3⟩ := h
  refine ⟨ao, cap, rfl, h1, h2, h0, ?_⟩
  rcases hv with hv | ⟨a, l, c, e, hq⟩
  · exact .inl hv
  · cases e
    rcases h3 with h3 | ⟨b, off, e, h3⟩
    · exact .inl h3
    · cases e
      by_cases hn : n = 0
      · exact .inl hn
      · exact .inr ⟨b, off, rfl, fun i hi => (World.cell?_of_block (w := w) (hw b (Rd.lt h3 (by omega)) hq)).trans (h3 i hi)⟩

/-- Where blocks of Q stand, data in them stand. -/
theorem DatQ.keep {Q Q' : Nat → Prop} {w w' : World} (hw : ∀ k, k < w.heap.size → Q k → w'.heap[k]? = w.heap[k]?) (hQ : ∀ k, k < w.heap.size → Q k → Q' k) : {h : Nat} → {d : Tr h} → {cs : List Value} → DatQ Q w h d cs → DatQ Q' w' h d cs
  | 0, _, _, h => h.elim
  | h + 1, (k, n, b, L, t, I, R), cs, hd => by
    obtain ⟨um, ui, ur, e, h0, h1, h2, h3, h4, v1, v2, v3⟩ := hd
    refine ⟨um, ui, ur, e, h0, h1.blk v1 hw, h2, h3.blk v2 hw (fun _ _ h => DatQ.keep hw hQ h), h4.blk v3 hw (fun _ _ h => DatQ.keep hw hQ h), ?_, ?_, ?_⟩
    · rcases v1 with v | ⟨a, l, c, e, hq⟩
      · exact .inl v
      · subst e
        by_cases hn : L.length = 0
        · exact .inl hn
        · obtain ⟨ao, cap, e, -, -, -, h3⟩ := h1
          cases e
          rcases h3 with h3 | ⟨b, off, e, h3⟩
          · exact absurd h3 hn
          · cases e
            exact .inr ⟨_, _, _, rfl, hQ _ (Rd.lt h3 (by omega)) hq⟩
    · exact rowQ h3 v2 hQ
    · exact rowQ h4 v3 hQ
where
  rowQ {α : Type} {Q Q' : Nat → Prop} {w : World} {P : α → List Value → Prop} {v : Value} {I : List α} (h : RowD w P v I) (hv : VQ Q v I.length) (hQ : ∀ k, k < w.heap.size → Q k → Q' k) : VQ Q' v I.length := by
    rcases hv with hv | ⟨a, l, c, e, hq⟩
    · exact .inl hv
    · subst e
      by_cases hn : I.length = 0
      · exact .inl hn
      · obtain ⟨ao, cap, e, -, -, h3⟩ := h
        cases e
        rcases h3 with h3 | ⟨b, off, e, h3⟩
        · exact absurd h3 hn
        · cases e
          obtain ⟨cs, k1, k2, -⟩ := h3 0 (by omega)
          have k0 := k2 0 (by decide)
          have : cs[0]? = some (cs[0]'(by omega)) := List.getElem?_eq_getElem (by omega)
          rw [this] at k0
          exact .inr ⟨_, _, _, rfl, hQ _ (World.block_lt_of_cell? w _ k0) hq⟩

/-- A number's groups of seven binary digits. -/
def grpB : Nat → Nat → List Nat
  | 0, v => [v]
  | f + 1, v => if v < 128 then [v] else (v % 128 + 128) :: grpB f (v / 128)

def numB (v : Nat) : List Nat := grpB 10 v

theorem grp_more : ∀ (f v : Nat), v < 128 ^ (f + 1) → grpB (f + 1) v = grpB f v
  | 0, v, h => by
    have h' : v < 128 := by simpa using h
    simp [grpB, h']
  | f + 1, v, h => by
    by_cases h' : v < 128
    · simp [grpB, h']
    · have hd : v / 128 < 128 ^ (f + 1) := by
        rw [Nat.div_lt_iff_lt_mul (by decide), ← Nat.pow_succ]
        exact h
      have ih := grp_more f (v / 128) hd
      show (if v < 128 then [v] else (v % 128 + 128) :: grpB (f + 1) (v / 128)) = if v < 128 then [v] else (v % 128 + 128) :: grpB f (v / 128)
      rw [if_neg h', if_neg h', ih]

theorem numB_lt {v : Nat} (h : v < 128) : numB v = [v] := by simp [numB, grpB, h]

theorem numB_ge {v : Nat} (h : 128 ≤ v) (hv : v < 128 ^ 10) : numB v = (v % 128 + 128) :: numB (v / 128) := by
  have h1 : ¬ v < 128 := by omega
  have hd : v / 128 < 128 ^ 10 := by omega
  unfold numB
  rw [grpB, if_neg h1, grp_more 9 (v / 128) hd]

def sgnN (v : Int) : Nat := if v < 0 then (-2 * v - 1).toNat else (2 * v).toNat

def byL (l : List UInt8) : List Nat := l.map UInt8.toNat

def txtB (s : ByteArray) : List Nat := numB s.size ++ byL s.data.toList

def flgB (b : Bool) : List Nat := [if b then 1 else 0]

/-- A datum's bytes. -/
def datB : (h : Nat) → Tr h → List Nat
  | 0, _ => []
  | h + 1, (k, n, b, L, t, I, R) => numB k.toNat ++
      (if k = 1 then flgB b ++ numB L.length ++ L.flatMap numB
      else if k = 2 ∨ k = 3 ∨ k = 9 then numB (sgnN n)
      else if k = 4 then txtB t
      else if k = 5 then txtB t ++ numB (sgnN n)
      else if k = 6 then numB I.length ++ I.flatMap (datB h) ++ flgB (!R.isEmpty) ++ R.flatMap (datB h)
      else if k = 7 then numB I.length ++ I.flatMap (datB h)
      else [])

def kdT : (h : Nat) → Tr h → Int
  | 0, _ => 0
  | _ + 1, d => d.1

def half (v : Int) : Bool := decide (-549755813888 ≤ v) && decide (v ≤ 549755813888)

def isNum (v : Int) : Bool := decide (0 ≤ v) && decide (v ≤ 1099511627776)

def canB (b : Bool) (L : List Nat) : Bool := if L.length = 0 then !b else !(L.getD (L.length - 1) 0 == 0)

def restF {h : Nat} (k : Int) (n : Nat) : List (Tr h) → Bool
  | [] => true
  | [r] => decide (k = 6) && (decide (0 < n) && !decide (kdT h r = 6))
  | _ => false

/-- May a datum be written, if its parts may? -/
def fit1 {h : Nat} (d : Tr (h + 1)) : Bool :=
  match d with
  | (k, n, b, L, t, I, R) => (decide (1 ≤ k) && decide (k ≤ 9)) && (half n && ((decide (k = 2) || decide (k = 3) || decide (k = 9) || decide (k = 5)) || decide (n = 0)) && (canB b L && (decide (k = 1) || decide (L.length = 0)) &&
      ((decide (k = 4) || decide (k = 5)) || decide (t.size = 0)) && ((decide (k = 6) || decide (k = 7)) || decide (I.length = 0)) && restF k I.length R))

def goodD : (h : Nat) → Nat → Tr h → Bool
  | 0, _, _ => false
  | _ + 1, 0, _ => false
  | h + 1, dp + 1, d => fit1 d && (d.2.2.2.2.2.1.all (goodD h dp) && d.2.2.2.2.2.2.all (goodD h dp))

def ptsD : (h : Nat) → Tr h → Nat
  | 0, _ => 0
  | h + 1, d => 1 + (d.2.2.2.2.2.1.map (ptsD h)).sum + (d.2.2.2.2.2.2.map (ptsD h)).sum

theorem infoU8 : (Try.prog.info? 5).map (fun i => (i.zero, i.size, i.bytes)) = some (some (.int .u8 0), 1, 1) := by kernel_rfl

/-- Bytes as they lie in memory. -/
def cL (l : List Nat) : List Value := l.map fun (x : Nat) => Value.int .u8 (x : Int)

theorem cL_len (l : List Nat) : (cL l).length = l.length := by simp [cL]

theorem cL_app (a b : List Nat) : cL (a ++ b) = cL a ++ cL b := by simp [cL]

theorem cL_one (l : List Nat) : ∀ u ∈ cL l, u.oneCell' = true := fun u hu => by
  simp only [cL, List.mem_map] at hu
  obtain ⟨x, -, rfl⟩ := hu
  rfl

/-- A writer, whose bytes lie from block B on. -/
structure WOut (B : Nat) (w : World) (wb : Nat) (out : List Nat) (v : Value) : Prop where
  box : w.heap[wb]? = some (.cells #[v] 53 (0, 0))
  own : w.ownsRow B 5 1 v out.length (cL out)
  ne : v.ownBlock ≠ some wb
  lo : B ≤ wb

def WO (B : Nat) (w : World) (wb : Nat) (out : List Nat) : Prop := ∃ v, WOut B w wb out v

theorem WOut.cell {B : Nat} {w : World} {wb : Nat} {out : List Nat} {v : Value} (h : WOut B w wb out v) : w.cell? ⟨wb, 0, none⟩ = some v := by
  rw [cell_of_row w wb 0 _ _ _ h.box]
  rfl

theorem WOut.free {B : Nat} {w : World} {wb : Nat} {out : List Nat} {v : Value} (h : WOut B w wb out v) : w.frozen? ⟨wb, 0, none⟩ = false := frozen_of_row _ _ _ _ _ h.box

theorem WOut.lt {B : Nat} {w : World} {wb : Nat} {out : List Nat} {v : Value} (h : WOut B w wb out v) : wb < w.heap.size := (Array.getElem?_eq_some_iff.1 h.box).1

theorem WOut.shape {B : Nat} {w : World} {wb : Nat} {out : List Nat} {v : Value} (h : WOut B w wb out v) : ∃ ao cap, v = .slice ao out.length cap := by
  rcases h.own.2 with ⟨e, e0⟩ | ⟨g, cap, cur, e, _⟩
  · exact ⟨none, 0, by rw [e, e0]⟩
  · exact ⟨_, _, e⟩

/-- What is no row of bytes, and no writer, is as it was; and so is all below B. -/
structure FW (B : Nat) (w w' : World) : Prop where
  fr : Fr (fun k => B ≤ k) w w'
  kt : ∀ (k : Nat) (c : Array Value) (E : TypeId) (f : Nat × Nat), w.heap[k]? = some (.cells c E f) → E ≠ 5 → E ≠ 53 → w'.heap[k]? = some (.cells c E f)

theorem FW.refl (B : Nat) (w : World) : FW B w w := ⟨Fr.refl _ _, fun _ _ _ _ h _ _ => h⟩

theorem FW.trans {B : Nat} {a b c : World} (h : FW B a b) (k : FW B b c) : FW B a c := ⟨h.fr.trans k.fr (fun _ _ e => e), fun x y E f hx h1 h2 => k.kt x y E f (h.kt x y E f hx h1 h2) h1 h2⟩

theorem FW.of {B : Nat} {a b : World} (h : Fr (fun _ => False) a b) : FW B a b := ⟨h.mono (fun _ _ e => e.elim), fun x _ _ _ hx _ _ => (h.block x (Array.getElem?_eq_some_iff.1 hx).1 (fun e => e)).trans hx⟩

theorem FW.up {w0 a b : World} (h : FW w0.heap.size a b) (u : Up w0 a) : Up w0 b := ⟨h.fr.os.trans u.os, h.fr.tape.trans u.tape, h.fr.output.trans u.output, Nat.le_trans u.size h.fr.size, fun k hk => (h.fr.block k (Nat.lt_of_lt_of_le hk u.size) (fun e => by omega)).trans (u.block k hk)⟩

/-- Where nothing but new blocks, or what is none of its own, has turned. -/
theorem WOut.keep {B : Nat} {w w' : World} {wb : Nat} {out : List Nat} {v : Value} (h : WOut B w wb out v) (hf : Fr (fun _ => False) w w') : WOut B w' wb out v :=
  { h with
    box := (hf.block wb h.lt (fun e => e)).trans h.box
    own := by
      refine ⟨h.own.1, ?_⟩
      rcases h.own.2 with e | ⟨g, cap, cur, e1, e2, e3, e4⟩
      · exact .inl e
      · exact .inr ⟨g, cap, cur, e1, e2, (hf.block g (Array.getElem?_eq_some_iff.1 e3).1 (fun e => e)).trans e3, e4⟩ }

theorem WOut.at9 {B : Nat} {w W w9 : World} {wb : Nat} {out : List Nat} {v : Value} (h : WOut B w wb out v) (hW : Fr (fun _ => False) w W) (hgrow : W.grownBy w9 v.ownBlock) : w9.cell? ⟨wb, 0, none⟩ = some v ∧ w9.frozen? ⟨wb, 0, none⟩ = false := by
  have hb9 : w9.heap[wb]? = some (.cells #[v] 53 (0, 0)) := by
    have := h.lt
    have := hW.size
    rw [hgrow.block wb (by omega) (fun e => h.ne e.symm)]
    exact (hW.block wb h.lt (fun e => e)).trans h.box
  exact ⟨by rw [cell_of_row w9 wb 0 _ _ _ hb9]; rfl, frozen_of_row _ _ _ _ _ hb9⟩

/-- Bytes are put behind those that are there, and the row is stored. -/
theorem WOut.put {B : Nat} {w w9 : World} {wb : Nat} {out x : List Nat} {v : Value} {W : World} {g n cap : Nat} (h : WOut B w wb out v) (hW : Fr (fun _ => False) w W) (hn : n = (out ++ x).length) (hown : w9.ownsRow B 5 1 (.slice (some ⟨g, 0, none⟩) n cap) n (cL out ++ cL x)) (hgrow : W.grownBy w9 v.ownBlock) (hat : v.ownBlock = some g ∨ W.heap.size ≤ g) :
    WOut B (w9.setCell ⟨wb, 0, none⟩ (.slice (some ⟨g, 0, none⟩) n cap)) wb (out ++ x) (.slice (some ⟨g, 0, none⟩) n cap) ∧ FW B w (w9.setCell ⟨wb, 0, none⟩ (.slice (some ⟨g, 0, none⟩) n cap)) := by
  subst hn
  have hlt := h.lt
  have hs := hW.size
  have hgw : g ≠ wb := by
    rcases hat with e | e
    · intro e2
      exact h.ne (by rw [e, e2])
    · omega
  have hb9 : w9.heap[wb]? = some (.cells #[v] 53 (0, 0)) := by
    rw [hgrow.block wb (by omega) (fun e => h.ne e.symm)]
    exact (hW.block wb hlt (fun e => e)).trans h.box
  have hgB : B ≤ g := by
    rcases hown.2 with ⟨e, _⟩ | ⟨g', cap', cur, e, h1, _⟩
    · cases e
    · cases e
      exact h1
  refine ⟨⟨(heap_setCell_same w9 wb 0 _ _ _ hb9).trans rfl, ?_, fun e => hgw (by simpa [Value.ownBlock] using e), h.lo⟩, ?_⟩
  · rw [cL_app]
    refine ⟨hown.1, ?_⟩
    rcases hown.2 with ⟨e, e0⟩ | ⟨g', cap', cur, e1, e2, e3, e4⟩
    · cases e
    · cases e1
      exact .inr ⟨_, _, cur, rfl, e2, (heap_setCell_other _ _ _ _ hgw).trans e3, e4⟩
  · refine ⟨Fr.setCell (S := fun k => B ≤ k) (Fr.grow (S := fun k => B ≤ k) (hW.mono (fun _ _ e => e.elim)) hgrow (fun k hk e => (h.own.lt k e).1)) (fun _ => h.lo) _ _, fun k c E f hk h1 h2 => ?_⟩
    have hkl := (Array.getElem?_eq_some_iff.1 hk).1
    have hkw : k ≠ wb := fun e => by
      rw [e, h.box] at hk
      injection hk with hk
      injection hk with _ hk
      exact h2 hk.symm
    have hkv : some k ≠ v.ownBlock := fun e => by
      rcases h.own.2 with ⟨ev, _⟩ | ⟨g', cap', cur, e1, _, e3, _⟩
      · rw [ev] at e; cases e
      · rw [e1] at e
        have e : k = g' := by simpa [Value.ownBlock] using e
        rw [e, e3] at hk
        injection hk with hk
        injection hk with _ hk
        exact h1 hk.symm
    rw [heap_setCell_other _ _ _ _ hkw, hgrow.block k (by omega) hkv, hW.block k hkl (fun e => e)]
    exact hk

/-- The same, where it is not told where the row lies. -/
theorem WOut.putV {B : Nat} {w w9 : World} {wb : Nat} {out x : List Nat} {v v' : Value} {W : World} {n : Nat} (h : WOut B w wb out v) (hW : Fr (fun _ => False) w W) (hn : n = (out ++ x).length) (hown : w9.ownsRow B 5 1 v' n (cL out ++ cL x)) (hgrow : W.grownBy w9 v.ownBlock) :
    WOut B (w9.setCell ⟨wb, 0, none⟩ v') wb (out ++ x) v' ∧ FW B w (w9.setCell ⟨wb, 0, none⟩ v') := by
  subst hn
  have hlt := h.lt
  have hs := hW.size
  have hb9 : w9.heap[wb]? = some (.cells #[v] 53 (0, 0)) := by
    rw [hgrow.block wb (by omega) (fun e => h.ne e.symm)]
    exact (hW.block wb hlt (fun e => e)).trans h.box
  refine ⟨⟨(heap_setCell_same w9 wb 0 _ _ _ hb9).trans rfl, ?_, ?_, h.lo⟩, ?_⟩
  · rw [cL_app]
    refine ⟨hown.1, ?_⟩
    rcases hown.2 with ⟨e, e0⟩ | ⟨g', cap', cur, e1, e2, e3, e4⟩
    · exact .inl ⟨e, e0⟩
    · have hgw : g' ≠ wb := fun e => by
        rw [e, hb9] at e3
        injection e3 with e3
        injection e3 with _ e3
        exact absurd e3 (by decide)
      exact .inr ⟨_, _, cur, e1, e2, (heap_setCell_other _ _ _ _ hgw).trans e3, e4⟩
  · rcases hown.2 with ⟨e, e0⟩ | ⟨g', cap', cur, e1, e2, e3, e4⟩
    · rw [e]
      exact fun e => by cases e
    · rw [e1]
      intro e
      have e : g' = wb := by simpa [Value.ownBlock] using e
      rw [e, hb9] at e3
      injection e3 with e3
      injection e3 with _ e3
      exact absurd e3 (by decide)
  · refine ⟨Fr.setCell (S := fun k => B ≤ k) (Fr.grow (S := fun k => B ≤ k) (hW.mono (fun _ _ e => e.elim)) hgrow (fun k hk e => (h.own.lt k e).1)) (fun _ => h.lo) _ _, fun k c E f hk h1 h2 => ?_⟩
    have hkl := (Array.getElem?_eq_some_iff.1 hk).1
    have hkw : k ≠ wb := fun e => by
      rw [e, h.box] at hk
      injection hk with hk
      injection hk with _ hk
      exact h2 hk.symm
    have hkv : some k ≠ v.ownBlock := fun e => by
      rcases h.own.2 with ⟨ev, _⟩ | ⟨g', cap', cur, e1, _, e3, _⟩
      · rw [ev] at e; cases e
      · rw [e1] at e
        have e : k = g' := by simpa [Value.ownBlock] using e
        rw [e, e3] at hk
        injection hk with hk
        injection hk with _ hk
        exact h1 hk.symm
    rw [heap_setCell_other _ _ _ _ hkw, hgrow.block k (by omega) hkv, hW.block k hkl (fun e => e)]
    exact hk

/-- What a writer's method comes to. -/
def WEnd (B : Nat) (w : World) (wb : Nat) (out : List Nat) (e : Ending) (w' : World) : Prop := e = .returned (.tuple #[]) ∧ WO B w' wb out ∧ FW B w w'

theorem news1 (w : World) (x : Nat) (E : TypeId) : ∀ j u, (cL [x])[j]? = some u → (w.alloc (.cells #[.int .u8 (x : Int)] E)).cell? ((⟨w.heap.size, 0, none⟩ : Addr).add j) = some u := fun j u hj => by
  rcases j with _ | j
  · simp [cL] at hj
    subst hj
    rw [Addr.add_lit, cell_of_row _ _ _ _ _ _ (heap_alloc_new w _)]
    rfl
  · simp [cL] at hj

set_option maxRecDepth 20000 in
set_option maxHeartbeats 1000000 in
theorem number_any (B : Nat) (w : World) (wb : Nat) (out : List Nat) (n : Nat) (h : WO B w wb out) (hn : n ≤ 9223372036854775807) (hl : (out ++ numB n).length ≤ 1000000000) (hB : B ≤ w.heap.size) :
    Calls Try.prog 40 #[.pointer (some ⟨wb, 0, none⟩), .int .i64 (n : Int)] w fun e w' => WEnd B w wb (out ++ numB n) e w' := by
  obtain ⟨iU, hiU, zU0, zU1, zU2⟩ := info_parts infoU8
  have HH := hide h
  have HL := hide hl
  clear h hl
  go_enter Try.func40, Try.ntmps40
  go_wp2_with fail
  go_loopw [1] (fun u wr => ∃ (m : Nat) (o : List Nat), u = .int .i64 (m : Int) ∧ m ≤ 9223372036854775807 ∧ o ++ numB m = out ++ numB n ∧ WO B wr wb o ∧ FW B w wr) (fun u _ => (intOf u).toNat)
  case atStart => exact ⟨n, out, rfl, hn, rfl, HH.out, FW.refl _ _⟩
  case round =>
    clear HH
    obtain ⟨m, o, rfl, hm, he, ⟨v, hv⟩, hF⟩ := hrel
    obtain ⟨ao, cap, ev⟩ := hv.shape
    have hlen : o.length + 1 ≤ 1000000000 := by
      have h1 := HL.out
      rw [← he] at h1
      have h2 : 1 ≤ (numB m).length := by
        unfold numB grpB
        split <;> simp
      rw [List.length_append] at h1
      omega
    have c0 := hv.cell
    have z0 := hv.free
    have hBs : B ≤ wr.heap.size := Nat.le_trans hB hF.fr.size
    have hown := hv.own
    subst ev
    have HV := hide hv
    have HE := hide he
    have HF := hide hF
    clear hv he hF
    by_cases hm1 : 128 ≤ m
    · have hmI : (128 : Int) ≤ (m : Int) := by omega
      obtain ⟨x, hx1, hx2⟩ : ∃ x : Nat, (m : Int) % 128 + 128 = (x : Int) ∧ x = m % 128 + 128 := ⟨m % 128 + 128, by omega, rfl⟩
      have he2 : (o ++ [x]) ++ numB (m / 128) = out ++ numB n := by rw [← HE.out, numB_ge hm1 (by omega), hx2]; simp
      have HE2 := hide he2
      clear he2 hx2
      go_wp2_with (at_builtin; refine wpList_append_lies _ rfl _ _ 23 rfl B 5 iU (.int .u8 0) 1 1 Try.underlying23 hiU zU0 zU1 zU2 rfl (by decide) _ o.length _ rfl (hown.alloc _) ⟨wr.heap.size, 0, none⟩ 1 1 (cL [x]) rfl rfl (news1 wr x _) (cL_one _) (by decide) (by unfold maxLen; omega) (by omega) (by simp; omega) (wr.heap.size + 1) (by simp) ?_; intro g9 cap9 w9 hown9 hgrow9 hat9 _; have y9 := (HV.out.at9 ((Fr.refl _ _).alloc _) hgrow9).1; have z9 := (HV.out.at9 ((Fr.refl _ _).alloc _) hgrow9).2; have HP9 := hide (HV.out.put (x := [x]) ((Fr.refl _ _).alloc _) (by simp) hown9 hgrow9 (hat9.imp id (fun e => by simp [e]))); clear hown9 hgrow9 hat9)
      exact ⟨⟨m / 128, o ++ [x], by go_num, by omega, HE2.out, ⟨_, HP9.out.1⟩, HF.out.trans HP9.out.2⟩, by simp [intOf]; omega⟩
    · have he2 : o ++ [m] = out ++ numB n := by rw [← HE.out, numB_lt (by omega)]
      have HE2 := hide he2
      clear he2
      go_wp2_with (at_builtin; refine wpList_append_lies _ rfl _ _ 23 rfl B 5 iU (.int .u8 0) 1 1 Try.underlying23 hiU zU0 zU1 zU2 rfl (by decide) _ o.length _ rfl (hown.alloc _) ⟨wr.heap.size, 0, none⟩ 1 1 (cL [m]) rfl rfl (news1 wr m _) (cL_one _) (by decide) (by unfold maxLen; omega) (by omega) (by simp; omega) (wr.heap.size + 1) (by simp) ?_; intro g9 cap9 w9 hown9 hgrow9 hat9 _; have y9 := (HV.out.at9 ((Fr.refl _ _).alloc _) hgrow9).1; have z9 := (HV.out.at9 ((Fr.refl _ _).alloc _) hgrow9).2; have HP9 := hide (HV.out.put (x := [m]) ((Fr.refl _ _).alloc _) (by simp) hown9 hgrow9 (hat9.imp id (fun e => by simp [e]))); clear hown9 hgrow9 hat9)
      refine bodyPost_end (results_none rfl _ _ _) rfl ⟨rfl, ⟨_, by rw [← HE2.out]; exact HP9.out.1⟩, HF.out.trans HP9.out.2⟩

set_option maxRecDepth 20000 in
set_option maxHeartbeats 1000000 in
theorem signed_any (B : Nat) (w : World) (wb : Nat) (out : List Nat) (v : Int) (h : WO B w wb out) (h1 : -549755813888 ≤ v) (h2 : v ≤ 549755813888) (hl : (out ++ numB (sgnN v)).length ≤ 1000000000) (hB : B ≤ w.heap.size) :
    Calls Try.prog 56 #[.pointer (some ⟨wb, 0, none⟩), .int .i64 v] w fun e w' => WEnd B w wb (out ++ numB (sgnN v)) e w' := by
  have hx : sgnN v ≤ 9223372036854775807 := by unfold sgnN; split <;> omega
  have HK := hide (number_any B w wb out (sgnN v) h hx hl hB)
  clear h hl
  by_cases hv : v < 0
  · have e : ((sgnN v : Nat) : Int) = -2 * v - 1 := by unfold sgnN; rw [if_pos hv]; omega
    rw [e] at HK
    clear e hx
    go_enter Try.func56, Try.ntmps56
    go_wp2_with (go_at_call 40; refine HK.out.mono ?_; rintro e1 w1 ⟨rfl, h1⟩)
    exact bodyPost_ret (results_none rfl _ _ _) rfl ⟨rfl, h1⟩
  · have e : ((sgnN v : Nat) : Int) = 2 * v := by unfold sgnN; rw [if_neg hv]; omega
    rw [e] at HK
    clear e hx
    go_enter Try.func56, Try.ntmps56
    go_wp2_with (go_at_call 40; refine HK.out.mono ?_; rintro e1 w1 ⟨rfl, h1⟩)
    exact bodyPost_end (results_none rfl _ _ _) rfl ⟨rfl, h1⟩

set_option maxRecDepth 20000 in
set_option maxHeartbeats 1000000 in
theorem flag_any (B : Nat) (w : World) (wb : Nat) (out : List Nat) (b : Bool) (h : WO B w wb out) (hl : (out ++ flgB b).length ≤ 1000000000) (hB : B ≤ w.heap.size) :
    Calls Try.prog 55 #[.pointer (some ⟨wb, 0, none⟩), .bool b] w fun e w' => WEnd B w wb (out ++ flgB b) e w' := by
  obtain ⟨iU, hiU, zU0, zU1, zU2⟩ := info_parts infoU8
  obtain ⟨v, hv⟩ := h
  obtain ⟨ao, cap, ev⟩ := hv.shape
  have hlen : out.length + 1 ≤ 1000000000 := by simpa [flgB] using hl
  have c0 := hv.cell
  have z0 := hv.free
  have hown := hv.own
  subst ev
  have HV := hide hv
  clear hv hl
  cases b
  · go_enter Try.func55, Try.ntmps55
    go_wp2_with (at_builtin; refine wpList_append_lies _ rfl _ _ 23 rfl B 5 iU (.int .u8 0) 1 1 Try.underlying23 hiU zU0 zU1 zU2 rfl (by decide) _ out.length _ rfl (hown.alloc _) ⟨w.heap.size, 0, none⟩ 1 1 (cL [0]) rfl rfl (news1 w 0 _) (cL_one _) (by decide) (by unfold maxLen; omega) (by omega) (by simp; omega) (w.heap.size + 1) (by simp) ?_; intro g9 cap9 w9 hown9 hgrow9 hat9 _; have y9 := (HV.out.at9 ((Fr.refl _ _).alloc _) hgrow9).1; have z9 := (HV.out.at9 ((Fr.refl _ _).alloc _) hgrow9).2; have HP9 := hide (HV.out.put (x := [0]) ((Fr.refl _ _).alloc _) (by simp) hown9 hgrow9 (hat9.imp id (fun e => by simp [e]))); clear hown9 hgrow9 hat9)
    exact bodyPost_end (results_none rfl _ _ _) rfl ⟨rfl, ⟨_, HP9.out.1⟩, HP9.out.2⟩
  · go_enter Try.func55, Try.ntmps55
    go_wp2_with (at_builtin; refine wpList_append_lies _ rfl _ _ 23 rfl B 5 iU (.int .u8 0) 1 1 Try.underlying23 hiU zU0 zU1 zU2 rfl (by decide) _ out.length _ rfl (hown.alloc _) ⟨w.heap.size, 0, none⟩ 1 1 (cL [1]) rfl rfl (news1 w 1 _) (cL_one _) (by decide) (by unfold maxLen; omega) (by omega) (by simp; omega) (w.heap.size + 1) (by simp) ?_; intro g9 cap9 w9 hown9 hgrow9 hat9 _; have y9 := (HV.out.at9 ((Fr.refl _ _).alloc _) hgrow9).1; have z9 := (HV.out.at9 ((Fr.refl _ _).alloc _) hgrow9).2; have HP9 := hide (HV.out.put (x := [1]) ((Fr.refl _ _).alloc _) (by simp) hown9 hgrow9 (hat9.imp id (fun e => by simp [e]))); clear hown9 hgrow9 hat9)
    exact bodyPost_ret (results_none rfl _ _ _) rfl ⟨rfl, ⟨_, HP9.out.1⟩, HP9.out.2⟩

theorem row_shape {w : World} {B : Nat} {e : TypeId} {size : Nat} {v : Value} {n : Nat} {xs : List Value} (h : w.ownsRow B e size v n xs) : ∃ ao cap, v = .slice ao n cap := by
  rcases h.2 with ⟨e, e0⟩ | ⟨g, cap, cur, e, _⟩
  · exact ⟨none, 0, by rw [e, e0]⟩
  · exact ⟨_, _, e⟩

theorem cL_str (s : ByteArray) : Lib.strCells s = cL (byL s.data.toList) := by
  simp [Lib.strCells, cL, byL]

theorem byL_len (s : ByteArray) : (byL s.data.toList).length = s.size := by
  simp [byL]

set_option maxRecDepth 20000 in
set_option maxHeartbeats 1000000 in
theorem text_any (B : Nat) (w : World) (wb : Nat) (out : List Nat) (s : ByteArray) (h : WO B w wb out) (hl : (out ++ txtB s).length ≤ 1000000000) (hB : B ≤ w.heap.size) :
    Calls Try.prog 54 #[.pointer (some ⟨wb, 0, none⟩), .string s] w fun e w' => WEnd B w wb (out ++ txtB s) e w' := by
  obtain ⟨iU, hiU, zU0, zU1, zU2⟩ := info_parts infoU8
  obtain ⟨o1, ho1⟩ : ∃ o1, o1 = out ++ numB s.size := ⟨_, rfl⟩
  have hl2 : o1.length + s.size ≤ 1000000000 := by
    have := byL_len s
    unfold txtB at hl
    rw [ho1]
    simp only [List.length_append] at hl ⊢
    omega
  have KN := number_any B w wb out s.size h (by omega) (by rw [← ho1]; omega) hB
  rw [← ho1] at KN
  have HK := hide KN
  have HEQ : Hid (out ++ txtB s = o1 ++ byL s.data.toList) := by unfold Hid txtB; rw [ho1, List.append_assoc]
  clear h hl KN ho1
  go_enter Try.func54, Try.ntmps54
  go_wp2_with (first
    | (go_at_call 40; refine HK.out.mono ?_; rintro e1 w1 ⟨rfl, ⟨v1, hv1⟩, F1⟩; obtain ⟨ao, cap, ev⟩ := hv1.shape; have c0 := hv1.cell; have z0 := hv1.free; have hown := hv1.own; have hB1 : B ≤ w1.heap.size := Nat.le_trans hB F1.fr.size; subst ev; have HV := hide hv1; have HF1 := hide F1; clear hv1 F1)
    | (at_builtin; refine Lib.wpList_append_own_string _ rfl _ _ 23 9 rfl B 5 iU Try.underlying23 Try.underlying9 hiU zU0 zU1 zU2 _ o1.length _ rfl hown s rfl (by unfold maxLen; omega) (by omega) hB1 ?_; intro v9 w9 hown9 hgrow9 _; obtain ⟨ao9, cap9, e9⟩ := row_shape hown9; subst e9; have y9 := (HV.out.at9 (Fr.refl _ _) hgrow9).1; have z9 := (HV.out.at9 (Fr.refl _ _) hgrow9).2; have HP9 := hide (HV.out.putV (x := byL s.data.toList) (Fr.refl _ _) (by rw [List.length_append, byL_len]) (by rw [← cL_str]; exact hown9) hgrow9); clear hown9 hgrow9))
  exact bodyPost_end (results_none rfl _ _ _) rfl ⟨rfl, ⟨_, by rw [HEQ.out]; exact HP9.out.1⟩, HF1.out.trans HP9.out.2⟩

theorem flat_take_le {α : Type} (f : α → List Nat) (L : List α) (i : Nat) : ((L.take i).flatMap f).length ≤ (L.flatMap f).length := by
  have h : L.flatMap f = (L.take i).flatMap f ++ (L.drop i).flatMap f := by rw [← List.flatMap_append, List.take_append_drop]
  rw [h, List.length_append]
  omega

theorem flat_take_succ {α : Type} (f : α → List Nat) (L : List α) (i : Nat) (hi : i < L.length) : (L.take (i + 1)).flatMap f = (L.take i).flatMap f ++ f L[i] := by
  rw [List.take_add_one, List.getElem?_eq_getElem hi, List.flatMap_append]
  simp

theorem WO.keep {B : Nat} {w w' : World} {wb : Nat} {out : List Nat} (h : WO B w wb out) (hf : Fr (fun _ => False) w w') : WO B w' wb out := by
  obtain ⟨v, hv⟩ := h
  exact ⟨v, hv.keep hf⟩

set_option maxRecDepth 20000 in
set_option maxHeartbeats 1000000 in
theorem wnum_any (w0 w : World) (wb : Nat) (out : List Nat) (b : Bool) (L : List Nat) (um : Value) (hS : Sl .u32 w0 um L.length (fun i => L.getD i 0)) (hU : Up w0 w) (h : WO w0.heap.size w wb out) (hlim : ∀ i, i < L.length → L.getD i 0 < 4294967296) (T : List Nat) (hT : T = ((out ++ flgB b) ++ numB L.length) ++ L.flatMap numB) (hl : T.length ≤ 1000000000) :
    Calls Try.prog 79 #[.pointer (some ⟨wb, 0, none⟩), .agg #[.bool b, um]] w fun e w' => WEnd w0.heap.size w wb T e w' := by
  obtain ⟨ao, cap, rfl, hc1, hc2, hc3, hrd⟩ := hS
  have hlen : L.length ≤ 9223372036854775807 := by omega
  have hTl : ((out ++ flgB b) ++ numB L.length).length + (L.flatMap numB).length = T.length := by rw [hT]; exact List.length_append.symm
  have HK1 := hide (fun (W : World) (hf : Fr (fun _ => False) w W) => flag_any w0.heap.size W wb out b (h.keep hf) (by rw [List.length_append] at hTl; omega) (Nat.le_trans hU.size hf.size))
  obtain ⟨o1, ho1⟩ : ∃ o1, o1 = out ++ flgB b := ⟨_, rfl⟩
  rw [← ho1] at HK1 hT hTl
  have HK2 := hide (fun (W : World) (hw : WO w0.heap.size W wb o1) (hb : w0.heap.size ≤ W.heap.size) => number_any w0.heap.size W wb o1 L.length hw hlen (by omega) hb)
  obtain ⟨o2, ho2⟩ : ∃ o2, o2 = o1 ++ numB L.length := ⟨_, rfl⟩
  rw [← ho2] at HK2 hT hTl
  have HK3 := hide (fun (W : World) (i : Nat) (hi : i < L.length) (hw : WO w0.heap.size W wb (o2 ++ (L.take i).flatMap numB)) (hb : w0.heap.size ≤ W.heap.size) => show Calls Try.prog 40 #[.pointer (some ⟨wb, 0, none⟩), .int .i64 ((L.getD i 0 : Nat) : Int)] W fun e w' => WEnd w0.heap.size W wb (o2 ++ (L.take (i + 1)).flatMap numB) e w' by
    have e : L.getD i 0 = L[i] := by simp [List.getD_eq_getElem?_getD, hi]
    have h1 := hlim i hi
    have h2 := flat_take_le numB L (i + 1)
    rw [flat_take_succ numB L i hi, ← e] at h2
    have := number_any w0.heap.size W wb (o2 ++ (L.take i).flatMap numB) (L.getD i 0) hw (by omega) (by simp only [List.length_append] at h2 ⊢; omega) hb
    rw [List.append_assoc, e, ← flat_take_succ numB L i hi, ← e] at this
    exact this)
  have HT := hide hT
  have HU := hide hU
  have HRD := hide hrd
  clear h hT hl hTl ho1 ho2 hU hrd
  go_enter Try.func79, Try.ntmps79
  go_wp2_with (first
    | (go_at_call 55; refine (HK1.out _ ((Fr.refl _ _).alloc _)).mono ?_; rintro e1 w1 ⟨rfl, hw1, F1⟩; have b1 := F1.kt w.heap.size _ _ _ (heap_alloc_new w _) (by decide) (by decide); have y1 : w1.cell? ⟨w.heap.size, 1, none⟩ = some (.slice ao L.length cap) := (by rw [cell_of_row w1 _ 1 _ _ _ b1]; rfl); have HW1 := hide hw1; have HF1 := hide ((FW.of (B := w0.heap.size) ((Fr.refl _ w).alloc _)).trans F1); have HB1 := hide b1; clear hw1 F1 b1)
    | (go_at_call 40; refine (HK2.out _ HW1.out (Nat.le_trans HU.out.size HF1.out.fr.size)).mono ?_; rintro e2 w2 ⟨rfl, hw2, F2⟩; have b2 := F2.kt w.heap.size _ _ _ HB1.out (by decide) (by decide); have y2 : w2.cell? ⟨w.heap.size, 1, none⟩ = some (.slice ao L.length cap) := (by rw [cell_of_row w2 _ 1 _ _ _ b2]; rfl); have HW2 := hide hw2; have HF2 := hide (HF1.out.trans F2); clear hw2 F2 b2))
  clear y1 HB1 HW1 HF1 HK1 HK2
  go_loopw [18] (fun u wr => ∃ i : Nat, u = .int .i64 (i : Int) ∧ i ≤ L.length ∧ WO w0.heap.size wr wb (o2 ++ (L.take i).flatMap numB) ∧ FW w0.heap.size w wr) (fun u _ => L.length - (intOf u).toNat)
  case atStart => exact ⟨0, rfl, Nat.zero_le _, by simpa using HW2.out, HF2.out⟩
  case round =>
    clear HW2 HF2 y2
    obtain ⟨i, rfl, hi, hW, hF⟩ := hrel
    by_cases hil : i < L.length
    · obtain ⟨g, off, ea, hc⟩ : ∃ g off, ao = some ⟨g, off, none⟩ ∧ wr.cell? ⟨g, off + i, none⟩ = some (.int .u32 ((L.getD i 0 : Nat) : Int)) := by
        rcases HRD.out with e | ⟨g, off, ea, hc⟩
        · omega
        · have h0 := hc i hil
          exact ⟨g, off, ea, (World.cell?_of_block ((hF.up HU.out).block g (World.block_lt_of_cell? w0 _ h0))).trans h0⟩
      subst ea
      have hx := hlim i hil
      have HK := hide (HK3.out wr i hil hW (Nat.le_trans HU.out.size hF.fr.size))
      have HF := hide hF
      clear hW hF
      generalize L.getD i 0 = x at *
      go_wp2_with (go_at_call 40; refine HK.out.mono ?_; rintro e3 w3 ⟨rfl, hw3, F3⟩)
      exact ⟨⟨i + 1, by go_num, hil, hw3, HF.out.trans F3⟩, by simp [intOf]; omega⟩
    · have e : i = L.length := by omega
      subst e
      rw [List.take_length] at hW
      have HW := hide hW
      have HF := hide hF
      have hil' : ¬ ((L.length : Int) < (L.length : Int)) := by omega
      clear hW hF hil
      go_wp2
      exact bodyPost_end (results_none rfl _ _ _) rfl ⟨rfl, by rw [HT.out]; exact HW.out, HF.out⟩

theorem infoD : (Try.prog.info? 64).map (fun i => (i.zero, i.size, i.bytes)) = some (some (.agg #[.int .i64 0, .int .i64 0, .bool false, .slice none 0 0, .string ⟨#[]⟩, .slice none 0 0, .slice none 0 0]), 7, 112) := by kernel_rfl

def seven (xs : List Value) (j : Nat) : List Value := (xs.drop (j * 7)).take 7

theorem seven_old {xs ys : List Value} {j k : Nat} (hl : xs.length = k * 7) (hj : j < k) : seven (xs ++ ys) j = seven xs j := by
  unfold seven
  rw [List.drop_append_of_le_length (by omega), List.take_append_of_le_length (by rw [List.length_drop]; omega)]

theorem seven_new {xs ys : List Value} {k : Nat} (hl : xs.length = k * 7) (hy : ys.length = 7) : seven (xs ++ ys) k = ys := by
  unfold seven
  rw [← hl, List.drop_left, List.take_of_length_le (by omega)]

/-- k data are copied. -/
structure CA (w : World) (h : Nat) (I : List (Tr h)) (k : Nat) (v : Value) (xs : List Value) (wr : World) : Prop where
  up : Up w wr
  own : wr.ownsRow w.heap.size 64 7 v k xs
  it : ∀ j (hj : j < I.length), j < k → DatQ (fun b => w.heap.size ≤ b ∧ v.ownBlock ≠ some b) wr h I[j] (seven xs j)

theorem CA.next {w : World} {h : Nat} {I : List (Tr h)} {k : Nat} {v : Value} {xs : List Value} {wr w2 w9 : World} {d0 d1 d2 d3 d4 d5 d6 : Value} {o : Obj} {g cap : Nat} (hA : CA w h I k v xs wr) (hk : k < I.length) (u2 : Up wr w2) (hd : DatQ (fun b => wr.heap.size ≤ b) w2 h I[k] [d0, d1, d2, d3, d4, d5, d6])
    (hown : w9.ownsRow w.heap.size 64 7 (.slice (some ⟨g, 0, none⟩) (k + 1) cap) (k + 1) (xs ++ [d0, d1, d2, d3, d4, d5, d6])) (hgrow : (w2.alloc o).grownBy w9 v.ownBlock) (hat : v.ownBlock = some g ∨ g = w2.heap.size + 1) :
    CA w h I (k + 1) (.slice (some ⟨g, 0, none⟩) (k + 1) cap) (xs ++ [d0, d1, d2, d3, d4, d5, d6]) w9 := by
  have hlen := hA.own.1
  have hs2 := u2.size
  have hs0 := hA.up.size
  have vlt : ∀ b, v.ownBlock = some b → w.heap.size ≤ b ∧ b < wr.heap.size := fun b hb => hA.own.lt b hb
  refine ⟨?_, hown, fun j hj hjk => ?_⟩
  · have : Up w (w2.alloc o) := (hA.up.tr u2).tr (up_alloc _ _)
    exact this.grown hgrow (by simp; omega) (fun b hb => (vlt b hb).1)
  · by_cases e : j = k
    · subst e
      rw [seven_new hlen rfl]
      refine DatQ.keep (w := w2) (fun b hb hq => ?_) (fun b hb hq => ⟨by omega, fun e => ?_⟩) hd
      · rw [hgrow.block b (by simp; omega) (fun e => by have := (vlt b e.symm).2; omega)]
        exact heap_alloc_old _ _ hb
      · have e' : g = b := by simpa [Value.ownBlock] using e
        rcases hat with h1 | h1
        · have := (vlt g h1).2; omega
        · omega
    · rw [seven_old hlen (by omega)]
      refine DatQ.keep (w := wr) (fun b hb hq => ?_) (fun b hb hq => ⟨hq.1, fun e => ?_⟩) (hA.it j hj (by omega))
      · rw [hgrow.block b (by simp; omega) (fun e => hq.2 e.symm), heap_alloc_old _ _ (by omega)]
        exact u2.block b hb
      · have e' : g = b := by simpa [Value.ownBlock] using e
        rcases hat with h1 | h1
        · exact hq.2 (by rw [h1, e'])
        · omega

theorem CA.fin {w : World} {h : Nat} {I : List (Tr h)} {v : Value} {xs : List Value} {wr : World} (hA : CA w h I I.length v xs wr) : RowD wr (DatQ (fun k => w.heap.size ≤ k) wr h) v I ∧ VQ (fun k => w.heap.size ≤ k) v I.length ∧ Up w wr := by
  have hlen := hA.own.1
  rcases hA.own.2 with ⟨rfl, h0⟩ | ⟨g, cap, cur, rfl, h1, h2, h3, h4, h5, h6⟩
  · exact ⟨⟨none, 0, by rw [h0], by omega, by decide, .inl h0⟩, .inl h0, hA.up⟩
  · refine ⟨⟨some ⟨g, 0, none⟩, cap, rfl, h3, by unfold maxLen at h4; omega, .inr ⟨g, 0, rfl, fun i hi => ⟨seven xs i, ?_, fun j hj => ?_, ?_⟩⟩⟩, .inr ⟨_, _, _, rfl, h1⟩, hA.up⟩
    · unfold seven
      rw [List.length_take, List.length_drop]
      omega
    · rw [cell_of_row wr g _ cur _ _ h2, ← Array.getElem?_toList, Nat.zero_add]
      unfold seven
      rw [List.getElem?_take, if_pos hj, List.getElem?_drop]
      have := congrArg (fun l : List Value => l[i * 7 + j]?) h6
      simp only [List.getElem?_take] at this
      rw [if_pos (by omega)] at this
      exact this
    · exact DatQ.keep (w := wr) (fun _ _ _ => rfl) (fun _ _ hq => hq.1) (hA.it i hi hi)

/-- Seven cells of one of a row that lay there. -/
theorem row_cells {w W : World} {h : Nat} {I : List (Tr h)} {ao : Option Addr} {n cap : Nat} (hr : RowD w (DatC w h) (.slice ao n cap) I) (u : Up w W) {i : Nat} (hi : i < I.length) :
    ∃ b off, ao = some ⟨b, off, none⟩ ∧ ∃ k m bb um t ui ur, DatC w h I[i] [.int .i64 k, .int .i64 m, .bool bb, um, .string t, ui, ur] ∧ (∃ ao l cap, um = .slice ao l cap) ∧ (∃ ao l cap, ui = .slice ao l cap) ∧ (∃ ao l cap, ur = .slice ao l cap) ∧
      W.cell? ⟨b, off + i * 7, none⟩ = some (.int .i64 k) ∧ W.cell? ⟨b, off + i * 7 + 1, none⟩ = some (.int .i64 m) ∧ W.cell? ⟨b, off + i * 7 + 2, none⟩ = some (.bool bb) ∧ W.cell? ⟨b, off + i * 7 + 3, none⟩ = some um ∧ W.cell? ⟨b, off + i * 7 + 4, none⟩ = some (.string t) ∧ W.cell? ⟨b, off + i * 7 + 5, none⟩ = some ui ∧ W.cell? ⟨b, off + i * 7 + 6, none⟩ = some ur := by
  obtain ⟨-, b, off, rfl, cs, k1, k2, k3⟩ := hr.get hi
  obtain ⟨k, m, bb, um, t, ui, ur, rfl, s1, s2, s3, e⟩ := dat_cells (off := off + i * 7) k1 k2 k3 u
  exact ⟨b, off, rfl, k, m, bb, um, t, ui, ur, k3, s1, s2, s3, e⟩

theorem hcells7 (w : World) (c0 c1 c2 c3 c4 c5 c6 : Value) (E : TypeId) : ∀ j u, [c0, c1, c2, c3, c4, c5, c6][j]? = some u → (w.alloc (.cells #[c0, c1, c2, c3, c4, c5, c6] E)).cell? ((⟨w.heap.size, 0, none⟩ : Addr).add j) = some u := by
  intro j u hj
  rw [Addr.add_lit, Nat.zero_add, cell_of_row _ _ j _ _ _ (heap_alloc_new w _)]
  simpa using hj

/-- Blocks from B on stand. -/
def Kb (B : Nat) (a c : World) : Prop := a.heap.size ≤ c.heap.size ∧ ∀ k, k < a.heap.size → B ≤ k → c.heap[k]? = a.heap[k]?

theorem Kb.trans {B : Nat} {a b c : World} (h : Kb B a b) (k : Kb B b c) : Kb B a c := ⟨Nat.le_trans h.1 k.1, fun i hi hB => (k.2 i (Nat.lt_of_lt_of_le hi h.1) hB).trans (h.2 i hi hB)⟩

theorem Kb.set {B g : Nat} (a : World) (hg : g < B) (i : Nat) (u : Value) : Kb B a (a.setCell ⟨g, i, none⟩ u) := ⟨by simp [World.setCell], fun k _ hB => heap_setCell_other _ _ _ _ (show k ≠ g from by omega)⟩

end Go.Proofs.Ytilcigjhogcjkaa
