/-
  What is proved here: data as trees, how they lie in memory, and how they are written; no walk. package strings' Builder, as it lies in package show's teller: copyCheck, WriteString, String; show's put. the rows of package show's teller, and what is still to be told of them; show's begin. package show's list. the last row of package show's teller: read, turned, taken away; no walk. package show's goOn, at an item. package show's goOn, at what stands behind a dot; goOn, whatever is left. data that lie in blocks of a kind; no walk.
-/
import Derived.Test.YtilcigjhogcjkaaJA
import Derived.Deep.RegionHeld3
import Derived.Deep.AppendLies
import Derived.Deep.QuietTactic
import Derived.BigQuiet
import Derived.Deep.RegionWith
import Derived.Maps.AppendAt
import Derived.Lib.UnsafeStr
import Derived.Lib.AppendStr
import Derived.Lib.Walk
import Derived.Lib.Builder
import Derived.Laws.Externs
import Derived.Deep.RegionLaw
import Derived.Laws.BytesString
import Derived.Deep.LoopGhost
namespace Go.Proofs.Ytilcigjhogcjkaa
open Go Go.RowKit

/-- Data of at most that height: kind, number, sign, limbs, bytes, items, rest. -/
def Tr : Nat → Type
  | 0 => Empty
  | h + 1 => Int × Int × Bool × List Nat × ByteArray × List (Tr h) × List (Tr h)

/-- A row of things, each of seven cells, that a slice value names; P tells what the cells of one say. -/
def RowD {α : Type} (w : World) (P : α → List Value → Prop) (v : Value) (I : List α) : Prop :=
  ∃ ao cap, v = .slice ao I.length cap ∧ I.length ≤ cap ∧ cap ≤ 9223372036854775807 ∧
    (I.length = 0 ∨ ∃ b off, ao = some ⟨b, off, none⟩ ∧ ∀ i (hi : i < I.length), ∃ cs : List Value, cs.length = 7 ∧ (∀ j, j < 7 → w.cell? ⟨b, off + i * 7 + j, none⟩ = cs[j]?) ∧ P I[i] cs)

/-- What seven cells say. -/
def DatC (w : World) : (h : Nat) → Tr h → List Value → Prop
  | 0, _, _ => False
  | h + 1, (k, n, b, L, t, I, R), cs => ∃ um ui ur, cs = [.int .i64 k, .int .i64 n, .bool b, um, .string t, ui, ur] ∧ (-9223372036854775808 ≤ n ∧ n ≤ 9223372036854775807) ∧
      Sl .u32 w um L.length (fun i => L.getD i 0) ∧ (∀ i, i < L.length → L.getD i 0 < 4294967296) ∧ RowD w (DatC w h) ui I ∧ RowD w (DatC w h) ur R

theorem RowD.up {α : Type} {w w' : World} {P P' : α → List Value → Prop} {v : Value} {I : List α} (h : RowD w P v I) (u : Up w w') (hP : ∀ a cs, P a cs → P' a cs) : RowD w' P' v I := by
  obtain ⟨ao, cap, rfl, h1, h2, h3⟩ := h
  refine ⟨ao, cap, rfl, h1, h2, ?_⟩
  rcases h3 with h3 | ⟨b, off, rfl, h3⟩
  · exact .inl h3
  · refine .inr ⟨b, off, rfl, fun i hi => ?_⟩
    obtain ⟨cs, k1, k2, k3⟩ := h3 i hi
    have k0 := k2 0 (by decide)
    have hl : b < w.heap.size := by
      have : cs[0]? = some (cs[0]'(by omega)) := List.getElem?_eq_getElem (by omega)
      rw [this] at k0
      exact World.block_lt_of_cell? w _ k0
    exact ⟨cs, k1, fun j hj => (u.cell (p := ⟨b, off + i * 7 + j, none⟩) hl).trans (k2 j hj), hP _ _ k3⟩

theorem DatC.up {w w' : World} : {h : Nat} → {d : Tr h} → {cs : List Value} → DatC w h d cs → Up w w' → DatC w' h d cs
  | 0, _, _, h, _ => h.elim
  | h + 1, (k, n, b, L, t, I, R), cs, hd, u => by
    obtain ⟨um, ui, ur, e, h0, h1, h2, h3, h4⟩ := hd
    exact ⟨um, ui, ur, e, h0, h1.below u (Nat.le_refl _), h2, h3.up u (fun a cs h => DatC.up h u), h4.up u (fun a cs h => DatC.up h u)⟩

theorem RowD.upD {w w' : World} {h : Nat} {v : Value} {I : List (Tr h)} (hr : RowD w (DatC w h) v I) (u : Up w w') : RowD w' (DatC w' h) v I :=
  hr.up u fun _ _ h => h.up u

/-- The first of a row. -/
theorem RowD.head {α : Type} {w : World} {P : α → List Value → Prop} {v : Value} {a : α} {I : List α} (h : RowD w P v (a :: I)) :
    ∃ b off cap, v = .slice (some ⟨b, off, none⟩) (I.length + 1) cap ∧ I.length + 1 ≤ cap ∧ cap ≤ 9223372036854775807 ∧ (∃ cs : List Value, cs.length = 7 ∧ (∀ j, j < 7 → w.cell? ⟨b, off + j, none⟩ = cs[j]?) ∧ P a cs) ∧
      ∀ ao' cap', I.length ≤ cap' → cap' ≤ 9223372036854775807 → (I.length = 0 ∨ ao' = some ⟨b, off + 7, none⟩) → RowD w P (.slice ao' I.length cap') I := by
  obtain ⟨ao, cap, rfl, h1, h2, h3⟩ := h
  rcases h3 with h3 | ⟨b, off, rfl, h3⟩
  · simp at h3
  · refine ⟨b, off, cap, rfl, h1, h2, ?_, fun ao' cap' g1 g2 g3 => ?_⟩
    · obtain ⟨cs, k1, k2, k3⟩ := h3 0 (by simp)
      exact ⟨cs, k1, fun j hj => by have := k2 j hj; simpa using this, k3⟩
    · refine ⟨ao', cap', rfl, g1, g2, ?_⟩
      rcases g3 with g3 | g3
      · exact .inl g3
      · refine .inr ⟨b, off + 7, g3, fun i hi => ?_⟩
        obtain ⟨cs, k1, k2, k3⟩ := h3 (i + 1) (by simp; omega)
        refine ⟨cs, k1, fun j hj => ?_, ?_⟩
        · have := k2 j hj
          rw [show off + (i + 1) * 7 + j = off + 7 + i * 7 + j by omega] at this
          exact this
        · simpa using k3

theorem RowD.shape {α : Type} {w : World} {P : α → List Value → Prop} {v : Value} {I : List α} (h : RowD w P v I) : ∃ ao cap, v = .slice ao I.length cap := by
  obtain ⟨ao, cap, e, -⟩ := h
  exact ⟨ao, cap, e⟩

/-- One of a row. -/
theorem RowD.get {α : Type} {w : World} {P : α → List Value → Prop} {ao : Option Addr} {n cap : Nat} {I : List α} (h : RowD w P (.slice ao n cap) I) {i : Nat} (hi : i < I.length) :
    n = I.length ∧ ∃ b off, ao = some ⟨b, off, none⟩ ∧ ∃ cs : List Value, cs.length = 7 ∧ (∀ j, j < 7 → w.cell? ⟨b, off + i * 7 + j, none⟩ = cs[j]?) ∧ P I[i] cs := by
  obtain ⟨ao, cap, e, h1, h2, h3⟩ := h
  cases e
  rcases h3 with h3 | ⟨b, off, rfl, h3⟩
  · omega
  · exact ⟨rfl, b, off, rfl, h3 i hi⟩

/-- How much there is of a datum. -/
def bk : (h : Nat) → Tr h → Nat
  | 0, _ => 0
  | h + 1, (_, _, _, L, t, I, R) => 2 + L.length + t.size + (I.map (bk h)).sum + (R.map (bk h)).sum

theorem bytes_len (s : ByteArray) : s.data.toList.length = s.size := Array.length_toList

theorem ownsRow_blk {B E s : Nat} {w w' : World} {v : Value} {n : Nat} {xs : List Value} (h : w.ownsRow B E s v n xs) (k : ∀ (g : Nat) (c : Array Value), w.heap[g]? = some (.cells c E (0, 0)) → w'.heap[g]? = some (.cells c E (0, 0))) : w'.ownsRow B E s v n xs := by
  refine ⟨h.1, ?_⟩
  rcases h.2 with e | ⟨g, cap, cur, e1, e2, e3, e4⟩
  · exact .inl e
  · exact .inr ⟨g, cap, cur, e1, e2, k _ _ e3, e4⟩

theorem Up.old {w w' : World} (u : Up w w') {g : Nat} {o : Obj} (h : w.heap[g]? = some o) : w'.heap[g]? = some o :=
  (u.block g (Array.getElem?_eq_some_iff.1 h).1).trans h

theorem RowD.one {α : Type} {w : World} {P : α → List Value → Prop} {a : α} {I : List α} {b off cap : Nat} (h : RowD w P (.slice (some ⟨b, off, none⟩) (I.length + 1) cap) (a :: I)) : RowD w P (.slice (some ⟨b, off, none⟩) 1 cap) [a] := by
  obtain ⟨ao, cap', e, h1, h2, h3⟩ := h
  cases e
  refine ⟨_, _, rfl, by simp at *; omega, h2, ?_⟩
  rcases h3 with h3 | ⟨b', off', e, h3⟩
  · simp at h3
  · refine .inr ⟨b', off', e, fun i hi => ?_⟩
    have hi0 : i = 0 := by simp at hi; omega
    subst hi0
    exact h3 0 (by simp)

theorem RowD.nil' {α : Type} (w : World) (P : α → List Value → Prop) : RowD w P (.slice none 0 0) ([] : List α) := ⟨none, 0, rfl, Nat.le_refl _, by decide, .inl rfl⟩

theorem bk_pos {h : Nat} (d : Tr (h + 1)) : 2 ≤ bk (h + 1) d := by
  obtain ⟨k, n, b, L, t, I, R⟩ := d
  simp only [bk]
  omega

theorem cells7 {w1 : World} {g : Nat} {c0 c1 c2 c3 c4 c5 c6 : Value} {E : TypeId} {f : Nat × Nat} (h : w1.heap[g]? = some (.cells #[c0, c1, c2, c3, c4, c5, c6] E f)) : w1.cell? ⟨g, 0, none⟩ = some c0 ∧ w1.cell? ⟨g, 1, none⟩ = some c1 ∧ w1.cell? ⟨g, 2, none⟩ = some c2 ∧ w1.cell? ⟨g, 3, none⟩ = some c3 ∧ w1.cell? ⟨g, 4, none⟩ = some c4 ∧ w1.cell? ⟨g, 5, none⟩ = some c5 ∧ w1.cell? ⟨g, 6, none⟩ = some c6 :=
  ⟨cell_of_row w1 g 0 _ E f h, cell_of_row w1 g 1 _ E f h, cell_of_row w1 g 2 _ E f h, cell_of_row w1 g 3 _ E f h, cell_of_row w1 g 4 _ E f h, cell_of_row w1 g 5 _ E f h, cell_of_row w1 g 6 _ E f h⟩

/-- Seven cells of a datum that lay there. -/
theorem dat_cells {w0 W : World} {h : Nat} {d : Tr h} {b off : Nat} {cs : List Value} (hl : cs.length = 7) (hc : ∀ j, j < 7 → w0.cell? ⟨b, off + j, none⟩ = cs[j]?) (hd : DatC w0 h d cs) (u : Up w0 W) :
    ∃ k n bb um t ui ur, cs = [.int .i64 k, .int .i64 n, .bool bb, um, .string t, ui, ur] ∧ (∃ ao l cap, um = .slice ao l cap) ∧ (∃ ao l cap, ui = .slice ao l cap) ∧ (∃ ao l cap, ur = .slice ao l cap) ∧
      W.cell? ⟨b, off, none⟩ = some (.int .i64 k) ∧ W.cell? ⟨b, off + 1, none⟩ = some (.int .i64 n) ∧ W.cell? ⟨b, off + 2, none⟩ = some (.bool bb) ∧ W.cell? ⟨b, off + 3, none⟩ = some um ∧ W.cell? ⟨b, off + 4, none⟩ = some (.string t) ∧ W.cell? ⟨b, off + 5, none⟩ = some ui ∧ W.cell? ⟨b, off + 6, none⟩ = some ur := by
  match h, d, hd with
  | 0, _, hd => exact hd.elim
  | h + 1, (k, n, bb, L, t, I, R), hd =>
    obtain ⟨um, ui, ur, rfl, -, hM, -, hI, hR⟩ := hd
    obtain ⟨a1, c1, rfl, -⟩ := hM
    obtain ⟨a2, c2, rfl⟩ := hI.shape
    obtain ⟨a3, c3, rfl⟩ := hR.shape
    have hb : b < w0.heap.size := World.block_lt_of_cell? w0 _ (hc 0 (by decide))
    have key : ∀ j, j < 7 → W.cell? ⟨b, off + j, none⟩ = _ := fun j hj => (u.cell (p := ⟨b, off + j, none⟩) hb).trans (hc j hj)
    exact ⟨_, _, _, _, _, _, _, rfl, ⟨_, _, _, rfl⟩, ⟨_, _, _, rfl⟩, ⟨_, _, _, rfl⟩, key 0 (by decide), key 1 (by decide), key 2 (by decide), key 3 (by decide), key 4 (by decide), key 5 (by decide), key 6 (by decide)⟩

theorem sum_ge {α : Type} {m : α → Nat} {l : List α} (h : ∀ a ∈ l, 1 ≤ m a) : l.length ≤ (l.map m).sum := by
  induction l with
  | nil => simp
  | cons a l ih =>
    have h1 := h a (by simp)
    have h2 := ih (fun b hb => h b (by simp [hb]))
    simp only [List.map_cons, List.sum_cons, List.length_cons]
    omega

theorem bk_one : (h : Nat) → (d : Tr h) → 1 ≤ bk h d
  | 0, d => Empty.elim d
  | h + 1, d => by have := bk_pos d; omega

/-- Where a slice value lies, if it has n things. -/
def VQ (Q : Nat → Prop) (v : Value) (n : Nat) : Prop := n = 0 ∨ ∃ a l c, v = .slice (some a) l c ∧ Q a.block

/-- Data in blocks of Q. -/
def DatQ (Q : Nat → Prop) (w : World) : (h : Nat) → Tr h → List Value → Prop
  | 0, _, _ => False
  | h + 1, (k, n, b, L, t, I, R), cs => ∃ um ui ur, cs = [.int .i64 k, .int .i64 n, .bool b, um, .string t, ui, ur] ∧ (-9223372036854775808 ≤ n ∧ n ≤ 9223372036854775807) ∧
      Sl .u32 w um L.length (fun i => L.getD i 0) ∧ (∀ i, i < L.length → L.getD i 0 < 4294967296) ∧ RowD w (DatQ Q w h) ui I ∧ RowD w (DatQ Q w h) ur R ∧ VQ Q um L.length ∧ VQ Q ui I.length ∧ VQ Q ur R.length

theorem RowD.mono {α : Type} {w : World} {P P' : α → List Value → Prop} {v : Value} {I : List α} (h : RowD w P v I) (hP : ∀ a cs, P a cs → P' a cs) : RowD w P' v I := by
  obtain ⟨ao, cap, rfl, h1, h2, h3⟩ := h
  refine ⟨ao, cap, rfl, h1, h2, ?_⟩
  rcases h3 with h3 | ⟨b, off, rfl, h3⟩
  · exact .inl h3
  · refine .inr ⟨b, off, rfl, fun i hi => ?_⟩
    obtain ⟨cs, k1, k2, k3⟩ := h3 i hi
    exact ⟨cs, k1, k2, hP _ _ k3⟩

theorem DatQ.dat {Q : Nat → Prop} {w : World} : {h : Nat} → {d : Tr h} → {cs : List Value} → DatQ Q w h d cs → DatC w h d cs
  | 0, _, _, h => h.elim
  | h + 1, (k, n, b, L, t, I, R), cs, hd => by
    obtain ⟨um, ui, ur, e, h0, h1, h2, h3, h4, -⟩ := hd
    exact ⟨um, ui, ur, e, h0, h1, h2, h3.mono (fun _ _ h => h.dat), h4.mono (fun _ _ h => h.dat)⟩

theorem VQ.mono {Q Q' : Nat → Prop} {v : Value} {n : Nat} (h : VQ Q v n) (hQ : ∀ k, Q k → Q' k) : VQ Q' v n := by
  rcases h with h | ⟨a, l, c, e, h⟩
  · exact .inl h
  · exact .inr ⟨a, l, c, e, hQ _ h⟩

theorem RowD.blk {α : Type} {Q : Nat → Prop} {w w' : World} {P P' : α → List Value → Prop} {v : Value} {I : List α} (h : RowD w P v I) (hv : VQ Q v I.length) (hw : ∀ k, k < w.heap.size → Q k → w'.heap[k]? = w.heap[k]?) (hP : ∀ a cs, P a cs → P' a cs) : RowD w' P' v I := by
  obtain ⟨ao, cap, rfl, h1, h2, h3⟩ := h
  refine ⟨ao, cap, rfl, h1, h2, ?_⟩
  rcases h3 with h3 | ⟨b, off, rfl, h3⟩
  · exact .inl h3
  · rcases hv with hv | ⟨a, l, c, e, hq⟩
    · exact .inl hv
    · cases e
      refine .inr ⟨b, off, rfl, fun i hi => ?_⟩
      obtain ⟨cs, k1, k2, k3⟩ := h3 i hi
      have k0 := k2 0 (by decide)
      have hl : b < w.heap.size := by
        have : cs[0]? = some (cs[0]'(by omega)) := List.getElem?_eq_getElem (by omega)
        rw [this] at k0
        exact World.block_lt_of_cell? w _ k0
      exact ⟨cs, k1, fun j hj => (World.cell?_of_block (w := w) (hw b hl hq)).trans (k2 j hj), hP _ _ k3⟩

theorem Sl.blk {Q : Nat → Prop} {k : IntKind} {w w' : World} {v : Value} {n : Nat} {f : Nat → Nat} (h : Sl k w v n f) (hv : VQ Q v n) (hw : ∀ k, k < w.heap.size → Q k → w'.heap[k]? = w.heap[k]?) : Sl k w' v n f := by
  obtain ⟨ao, cap, rfl, h1, h2, h0, h3⟩ := h
  refine ⟨ao, cap, rfl, h1, h2, h0, ?_⟩
  rcases hv with hv | ⟨a, l, c, e, hq⟩
  · exact .inl hv
  · cases e
    rcases h3 with h3 | ⟨b, off, e, h3⟩
    · exact .inl h3
    · cases e
      by_cases hn : n = 0
      · exact .inl hn
      · exact .inr ⟨b, off, rfl, fun i hi => (World.cell?_of_block (w := w) (hw b (Rd.lt h3 (by omega)) hq)).trans (h3 i hi)⟩

/-- Where blocks of Q stand, data in them stand. -/
theorem DatQ.keep {Q Q' : Nat → Prop} {w w' : World} (hw : ∀ k, k < w.heap.size → Q k → w'.heap[k]? = w.heap[k]?) (hQ : ∀ k, k < w.heap.size → Q k → Q' k) : {h : Nat} → {d : Tr h} → {cs : List Value} → DatQ Q w h d cs → DatQ Q' w' h d cs
  | 0, _, _, h => h.elim
  | h + 1, (k, n, b, L, t, I, R), cs, hd => by
    obtain ⟨um, ui, ur, e, h0, h1, h2, h3, h4, v1, v2, v3⟩ := hd
    refine ⟨um, ui, ur, e, h0, h1.blk v1 hw, h2, h3.blk v2 hw (fun _ _ h => DatQ.keep hw hQ h), h4.blk v3 hw (fun _ _ h => DatQ.keep hw hQ h), ?_, ?_, ?_⟩
    · rcases v1 with v | ⟨a, l, c, e, hq⟩
      · exact .inl v
      · subst e
        by_cases hn : L.length = 0
        · exact .inl hn
        · obtain ⟨ao, cap, e, -, -, -, h3⟩ := h1
          cases e
          rcases h3 with h3 | ⟨b, off, e, h3⟩
          · exact absurd h3 hn
          · cases e
            exact .inr ⟨_, _, _, rfl, hQ _ (Rd.lt h3 (by omega)) hq⟩
    · exact rowQ h3 v2 hQ
    · exact rowQ h4 v3 hQ
where
  rowQ {α : Type} {Q Q' : Nat → Prop} {w : World} {P : α → List Value → Prop} {v : Value} {I : List α} (h : RowD w P v I) (hv : VQ Q v I.length) (hQ : ∀ k, k < w.heap.size → Q k → Q' k) : VQ Q' v I.length := by
    rcases hv with hv | ⟨a, l, c, e, hq⟩
    · exact .inl hv
    · subst e
      by_cases hn : I.length = 0
      · exact .inl hn
      · obtain ⟨ao, cap, e, -, -, h3⟩ := h
        cases e
        rcases h3 with h3 | ⟨b, off, e, h3⟩
        · exact absurd h3 hn
        · cases e
          obtain ⟨cs, k1, k2, -⟩ := h3 0 (by omega)
          have k0 := k2 0 (by decide)
          have : cs[0]? = some (cs[0]'(by omega)) := List.getElem?_eq_getElem (by omega)
          rw [this] at k0
          exact .inr ⟨_, _, _, rfl, hQ _ (World.block_lt_of_cell? w _ k0) hq⟩

end Go.Proofs.Ytilcigjhogcjkaa

