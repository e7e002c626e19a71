/-
  What is proved here: package strings' Builder, as it lies in package show's teller: copyCheck, WriteString, String; show's put. package strings' Builder in package show's teller: WriteString, String; show's put. the rows of package show's teller, and what is still to be told of them; show's begin. package show's list. the last row of package show's teller: read, turned, taken away; no walk. package show's goOn, at an item. data that lie in blocks of a kind; no walk. package show's Write and Display; tandemlaw06.awake. bytes that are put together in new memory.
-/
import Derived.Test.YteipogfolnlblaaDoorWSData
import Derived.Lib.AppendStr
import Derived.Lib.UnsafeStr
import Derived.Lib.Walk
import Derived.Lib.Builder
import Derived.Laws.Externs
import Derived.Deep.AppendLies
import Derived.Deep.RegionLaw
import Derived.Laws.BytesString
import Derived.Deep.RegionHeld3
import Derived.Deep.RegionWith
import Derived.Deep.LoopGhost
namespace Go.Proofs.YteipogfolnlblaaDoor
open Go Go.RowKit

theorem infoU8 : (Tryd.prog.info? 5).map (fun i => (i.zero, i.size, i.bytes)) = some (some (.int .u8 0), 1, 1) := by kernel_rfl

theorem ownsRow_blk {B E s : Nat} {w w' : World} {v : Value} {n : Nat} {xs : List Value} (h : w.ownsRow B E s v n xs) (k : ∀ (g : Nat) (c : Array Value), w.heap[g]? = some (.cells c E (0, 0)) → w'.heap[g]? = some (.cells c E (0, 0))) : w'.ownsRow B E s v n xs := by
  refine ⟨h.1, ?_⟩
  rcases h.2 with e | ⟨g, cap, cur, e1, e2, e3, e4⟩
  · exact .inl e
  · exact .inr ⟨g, cap, cur, e1, e2, k _ _ e3, e4⟩

theorem up_drew (w : World) : Up w w.drew := Below.drew (Below.refl _ w)

theorem Up.old {w w' : World} (u : Up w w') {g : Nat} {o : Obj} (h : w.heap[g]? = some o) : w'.heap[g]? = some o :=
  (u.block g (Array.getElem?_eq_some_iff.1 h).1).trans h

theorem RowD.one {α : Type} {w : World} {P : α → List Value → Prop} {a : α} {I : List α} {b off cap : Nat} (h : RowD w P (.slice (some ⟨b, off, none⟩) (I.length + 1) cap) (a :: I)) : RowD w P (.slice (some ⟨b, off, none⟩) 1 cap) [a] := by
  obtain ⟨ao, cap', e, h1, h2, h3⟩ := h
  cases e
  refine ⟨_, _, rfl, by simp at *; omega, h2, ?_⟩
  rcases h3 with h3 | ⟨b', off', e, h3⟩
  · simp at h3
  · refine .inr ⟨b', off', e, fun i hi => ?_⟩
    have hi0 : i = 0 := by simp at hi; omega
    subst hi0
    exact h3 0 (by simp)

theorem RowD.nil' {α : Type} (w : World) (P : α → List Value → Prop) : RowD w P (.slice none 0 0) ([] : List α) := ⟨none, 0, rfl, Nat.le_refl _, by decide, .inl rfl⟩

theorem cells7 {w1 : World} {g : Nat} {c0 c1 c2 c3 c4 c5 c6 : Value} {E : TypeId} {f : Nat × Nat} (h : w1.heap[g]? = some (.cells #[c0, c1, c2, c3, c4, c5, c6] E f)) : w1.cell? ⟨g, 0, none⟩ = some c0 ∧ w1.cell? ⟨g, 1, none⟩ = some c1 ∧ w1.cell? ⟨g, 2, none⟩ = some c2 ∧ w1.cell? ⟨g, 3, none⟩ = some c3 ∧ w1.cell? ⟨g, 4, none⟩ = some c4 ∧ w1.cell? ⟨g, 5, none⟩ = some c5 ∧ w1.cell? ⟨g, 6, none⟩ = some c6 :=
  ⟨cell_of_row w1 g 0 _ E f h, cell_of_row w1 g 1 _ E f h, cell_of_row w1 g 2 _ E f h, cell_of_row w1 g 3 _ E f h, cell_of_row w1 g 4 _ E f h, cell_of_row w1 g 5 _ E f h, cell_of_row w1 g 6 _ E f h⟩

/-- Where a slice value lies, if it has n things. -/
def VQ (Q : Nat → Prop) (v : Value) (n : Nat) : Prop := n = 0 ∨ ∃ a l c, v = .slice (some a) l c ∧ Q a.block

/-- Data in blocks of Q. -/
def DatQ (Q : Nat → Prop) (w : World) : (h : Nat) → Tr h → List Value → Prop
  | 0, _, _ => False
  | h + 1, (k, n, b, L, t, I, R), cs => ∃ um ui ur, cs = [.int .i64 k, .int .i64 n, .bool b, um, .string t, ui, ur] ∧ (-9223372036854775808 ≤ n ∧ n ≤ 9223372036854775807) ∧
      Sl .u32 w um L.length (fun i => L.getD i 0) ∧ (∀ i, i < L.length → L.getD i 0 < 4294967296) ∧ RowD w (DatQ Q w h) ui I ∧ RowD w (DatQ Q w h) ur R ∧ VQ Q um L.length ∧ VQ Q ui I.length ∧ VQ Q ur R.length

theorem RowD.mono {α : Type} {w : World} {P P' : α → List Value → Prop} {v : Value} {I : List α} (h : RowD w P v I) (hP : ∀ a cs, P a cs → P' a cs) : RowD w P' v I := by
  obtain ⟨ao, cap, rfl, h1, h2, h3⟩ := h
  refine ⟨ao, cap, rfl, h1, h2, ?_⟩
  rcases h3 with h3 | ⟨b, off, rfl, h3⟩
  · exact .inl h3
  · refine .inr ⟨b, off, rfl, fun i hi => ?_⟩
    obtain ⟨cs, k1, k2, k3⟩ := h3 i hi
    exact ⟨cs, k1, k2, hP _ _ k3⟩

theorem DatQ.dat {Q : Nat → Prop} {w : World} : {h : Nat} → {d : Tr h} → {cs : List Value} → DatQ Q w h d cs → DatC w h d cs
  | 0, _, _, h => h.elim
  | h + 1, (k, n, b, L, t, I, R), cs, hd => by
    obtain ⟨um, ui, ur, e, h0, h1, h2, h3, h4, -⟩ := hd
    exact ⟨um, ui, ur, e, h0, h1, h2, h3.mono (fun _ _ h => h.dat), h4.mono (fun _ _ h => h.dat)⟩

theorem VQ.mono {Q Q' : Nat → Prop} {v : Value} {n : Nat} (h : VQ Q v n) (hQ : ∀ k, Q k → Q' k) : VQ Q' v n := by
  rcases h with h | ⟨a, l, c, e, h⟩
  · exact .inl h
  · exact .inr ⟨a, l, c, e, hQ _ h⟩

theorem RowD.blk {α : Type} {Q : Nat → Prop} {w w' : World} {P P' : α → List Value → Prop} {v : Value} {I : List α} (h : RowD w P v I) (hv : VQ Q v I.length) (hw : ∀ k, k < w.heap.size → Q k → w'.heap[k]? = w.heap[k]?) (hP : ∀ a cs, P a cs → P' a cs) : RowD w' P' v I := by
  obtain ⟨ao, cap, rfl, h1, h2, h3⟩ := h
  refine ⟨ao, cap, rfl, h1, h2, ?_⟩
  rcases h3 with h3 | ⟨b, off, rfl, h3⟩
  · exact .inl h3
  · rcases hv with hv | ⟨a, l, c, e, hq⟩
    · exact .inl hv
    · cases e
      refine .inr ⟨b, off, rfl, fun i hi => ?_⟩
      obtain ⟨cs, k1, k2, k3⟩ := h3 i hi
      have k0 := k2 0 (by decide)
      have hl : b < w.heap.size := by
        have : cs[0]? = some (cs[0]'(by omega)) := List.getElem?_eq_getElem (by omega)
        rw [this] at k0
        exact World.block_lt_of_cell? w _ k0
      exact ⟨cs, k1, fun j hj => (World.cell?_of_block (w := w) (hw b hl hq)).trans (k2 j hj), hP _ _ k3⟩

theorem Sl.blk {Q : Nat → Prop} {k : IntKind} {w w' : World} {v : Value} {n : Nat} {f : Nat → Nat} (h : Sl k w v n f) (hv : VQ Q v n) (hw : ∀ k, k < w.heap.size → Q k → w'.heap[k]? = w.heap[k]?) : Sl k w' v n f := by
  obtain ⟨ao, cap, rfl, h1, h2, h0, h3⟩ := h
  refine ⟨ao, cap, rfl, h1, h2, h0, ?_⟩
  rcases hv with hv | ⟨a, l, c, e, hq⟩
  · exact .inl hv
  · cases e
    rcases h3 with h3 | ⟨b, off, e, h3⟩
    · exact .inl h3
    · cases e
      by_cases hn : n = 0
      · exact .inl hn
      · exact .inr ⟨b, off, rfl, fun i hi => (World.cell?_of_block (w := w) (hw b (Rd.lt h3 (by omega)) hq)).trans (h3 i hi)⟩

/-- Where blocks of Q stand, data in them stand. -/
theorem DatQ.keep {Q Q' : Nat → Prop} {w w' : World} (hw : ∀ k, k < w.heap.size → Q k → w'.heap[k]? = w.heap[k]?) (hQ : ∀ k, k < w.heap.size → Q k → Q' k) : {h : Nat} → {d : Tr h} → {cs : List Value} → DatQ Q w h d cs → DatQ Q' w' h d cs
  | 0, _, _, h => h.elim
  | h + 1, (k, n, b, L, t, I, R), cs, hd => by
    obtain ⟨um, ui, ur, e, h0, h1, h2, h3, h4, v1, v2, v3⟩ := hd
    refine ⟨um, ui, ur, e, h0, h1.blk v1 hw, h2, h3.blk v2 hw (fun _ _ h => DatQ.keep hw hQ h), h4.blk v3 hw (fun _ _ h => DatQ.keep hw hQ h), ?_, ?_, ?_⟩
    · rcases v1 with v | ⟨a, l, c, e, hq⟩
      · exact .inl v
      · subst e
        by_cases hn : L.length = 0
        · exact .inl hn
        · obtain ⟨ao, cap, e, -, -, -, h3⟩ := h1
          cases e
          rcases h3 with h3 | ⟨b, off, e, h3⟩
          · exact absurd h3 hn
          · cases e
            exact .inr ⟨_, _, _, rfl, hQ _ (Rd.lt h3 (by omega)) hq⟩
    · exact rowQ h3 v2 hQ
    · exact rowQ h4 v3 hQ
where
  rowQ {α : Type} {Q Q' : Nat → Prop} {w : World} {P : α → List Value → Prop} {v : Value} {I : List α} (h : RowD w P v I) (hv : VQ Q v I.length) (hQ : ∀ k, k < w.heap.size → Q k → Q' k) : VQ Q' v I.length := by
    rcases hv with hv | ⟨a, l, c, e, hq⟩
    · exact .inl hv
    · subst e
      by_cases hn : I.length = 0
      · exact .inl hn
      · obtain ⟨ao, cap, e, -, -, h3⟩ := h
        cases e
        rcases h3 with h3 | ⟨b, off, e, h3⟩
        · exact absurd h3 hn
        · cases e
          obtain ⟨cs, k1, k2, -⟩ := h3 0 (by omega)
          have k0 := k2 0 (by decide)
          have : cs[0]? = some (cs[0]'(by omega)) := List.getElem?_eq_getElem (by omega)
          rw [this] at k0
          exact .inr ⟨_, _, _, rfl, hQ _ (World.block_lt_of_cell? w _ k0) hq⟩

theorem sl_nil (w : World) : Sl .u32 w (.slice none 0 0) ([] : List Nat).length (fun i => ([] : List Nat).getD i 0) := ⟨none, 0, rfl, Nat.le_refl _, by decide, fun _ => rfl, .inl rfl⟩

/-- Bytes that are put together in new memory. -/
structure RT (w : World) (v : Value) (S : List UInt8) (wr : World) : Prop where
  up : Up w wr
  own : wr.ownsRow w.heap.size 5 1 v S.length (Lib.byteCells S)

theorem RT.shape {w : World} {v : Value} {S : List UInt8} {wr : World} (h : RT w v S wr) : ∃ ao cap, v = .slice ao S.length cap := by
  rcases h.own.2 with ⟨e, e0⟩ | ⟨g, cap, cur, e, _⟩
  · exact ⟨none, 0, by rw [e, e0]⟩
  · exact ⟨_, _, e⟩

theorem RT.more {w : World} {v : Value} {S : List UInt8} {wr w' : World} (h : RT w v S wr) (u : Up wr w') : RT w v S w' := ⟨h.up.tr u, ownsRow_blk h.own (fun _g _c hg => u.old hg)⟩

/-- Some bytes more. -/
theorem RT.snoc {w : World} {v v' : Value} {S l : List UInt8} {W w9 : World} {n : Nat} (h : RT w v S W) (hown : w9.ownsRow w.heap.size 5 1 v' n (Lib.byteCells S ++ Lib.byteCells l)) (hn : n = S.length + l.length) (hg : W.grownBy w9 v.ownBlock) : RT w v' (S ++ l) w9 := by
  refine ⟨h.up.grown hg h.up.size (fun k hk => (h.own.lt k hk).1), ?_⟩
  rw [List.length_append, ← hn, Lib.byteCells_append]
  exact hown

theorem bytes_at (w : World) (l : List UInt8) : ∀ j u, (Lib.byteCells l)[j]? = some u → (w.alloc (.cells (Lib.byteCells l).toArray 5)).cell? ((⟨w.heap.size, 0, none⟩ : Addr).add j) = some u := by
  intro j u hj
  rw [Addr.add_lit, Nat.zero_add, cell_of_row _ _ j _ _ _ (heap_alloc_new w _)]
  simpa using hj

theorem bytes_one (l : List UInt8) : ∀ u ∈ Lib.byteCells l, u.oneCell' = true := by
  intro u hu
  simp [Lib.byteCells] at hu
  obtain ⟨a, -, rfl⟩ := hu
  rfl

end Go.Proofs.YteipogfolnlblaaDoor
