/-
  What is proved here: data that lie in blocks of a kind; no walk.
-/
import Derived.Test.YtfplplobhmacoaaGreatDoorSTold
namespace Go.Proofs.YtfplplobhmacoaaGreatDoor
open Go Go.RowKit

/-- Where a slice value lies, if it has n things. -/
def VQ (Q : Nat → Prop) (v : Value) (n : Nat) : Prop := n = 0 ∨ ∃ a l c, v = .slice (some a) l c ∧ Q a.block

/-- Data in blocks of Q. -/
def DatQ (Q : Nat → Prop) (w : World) : (h : Nat) → Tr h → List Value → Prop
  | 0, _, _ => False
  | h + 1, (k, n, b, L, t, I, R), cs => ∃ um ui ur, cs = [.int .i64 k, .int .i64 n, .bool b, um, .string t, ui, ur] ∧ (-9223372036854775808 ≤ n ∧ n ≤ 9223372036854775807) ∧
      Sl .u32 w um L.length (fun i => L.getD i 0) ∧ (∀ i, i < L.length → L.getD i 0 < 4294967296) ∧ RowD w (DatQ Q w h) ui I ∧ RowD w (DatQ Q w h) ur R ∧ VQ Q um L.length ∧ VQ Q ui I.length ∧ VQ Q ur R.length

theorem RowD.mono {α : Type} {w : World} {P P' : α → List Value → Prop} {v : Value} {I : List α} (h : RowD w P v I) (hP : ∀ a cs, P a cs → P' a cs) : RowD w P' v I := by
  obtain ⟨ao, cap, rfl, h1, h2, h3⟩ := h
  refine ⟨ao, cap, rfl, h1, h2, ?_⟩
  rcases h3 with h3 | ⟨b, off, rfl, h3⟩
  · exact .inl h3
  · refine .inr ⟨b, off, rfl, fun i hi => ?_⟩
    obtain ⟨cs, k1, k2, k3⟩ := h3 i hi
    exact ⟨cs, k1, k2, hP _ _ k3⟩

theorem DatQ.dat {Q : Nat → Prop} {w : World} : {h : Nat} → {d : Tr h} → {cs : List Value} → DatQ Q w h d cs → DatC w h d cs
  | 0, _, _, h => h.elim
  | h + 1, (k, n, b, L, t, I, R), cs, hd => by
    obtain ⟨um, ui, ur, e, h0, h1, h2, h3, h4, -⟩ := hd
    exact ⟨um, ui, ur, e, h0, h1, h2, h3.mono (fun _ _ h => h.dat), h4.mono (fun _ _ h => h.dat)⟩
theorem VQ.mono {Q Q' : Nat → Prop} {v : Value} {n : Nat} (h : VQ Q v n) (hQ : ∀ k, Q k → Q' k) : VQ Q' v n := by
  rcases h with h | ⟨a, l, c, e, h⟩
  · exact .inl h
  · exact .inr ⟨a, l, c, e, hQ _ h⟩

theorem RowD.blk {α : Type} {Q : Nat → Prop} {w w' : World} {P P' : α → List Value → Prop} {v : Value} {I : List α} (h : RowD w P v I) (hv : VQ Q v I.length) (hw : ∀ k, k < w.heap.size → Q k → w'.heap[k]? = w.heap[k]?) (hP : ∀ a cs, P a cs → P' a cs) : RowD w' P' v I := by
  obtain ⟨ao, cap, rfl, h1, h2, h3⟩ := h
  refine ⟨ao, cap, rfl, h1, h2, ?_⟩
  rcases h3 with h3 | ⟨b, off, rfl, h3⟩
  · exact .inl h3
  · rcases hv with hv | ⟨a, l, c, e, hq⟩
    · exact .inl hv
    · cases e
      refine .inr ⟨b, off, rfl, fun i hi => ?_⟩
      obtain ⟨cs, k1, k2, k3⟩ := h3 i hi
      have k0 := k2 0 (by decide)
      have hl : b < w.heap.size := by
        have : cs[0]? = some (cs[0]'(by omega)) := List.getElem?_eq_getElem (by omega)
        rw [this] at k0
        exact World.block_lt_of_cell? w _ k0
      exact ⟨cs, k1, fun j hj => (World.cell?_of_block (w := w) (hw b hl hq)).trans (k2 j hj), hP _ _ k3⟩
theorem Sl.blk {Q : Nat → Prop} {k : IntKind} {w w' : World} {v : Value} {n : Nat} {f : Nat → Nat} (h : Sl k w v n f) (hv : VQ Q v n) (hw : ∀ k, k < w.heap.size → Q k → w'.heap[k]? = w.heap[k]?) : Sl k w' v n f := by
  obtain ⟨ao, cap, rfl, h1, h2, h0, h3⟩ := h
  refine ⟨ao, cap, rfl, h1, h2, h0, ?_⟩
  rcases hv with hv | ⟨a, l, c, e, hq⟩
  · exact .inl hv
  · cases e
    rcases h3 with h3 | ⟨b, off, e, h3⟩
    · exact .inl h3
    · cases e
      by_cases hn : n = 0
      · exact .inl hn
      · exact .inr ⟨b, off, rfl, fun i hi => (World.cell?_of_block (w := w) (hw b (Rd.lt h3 (by omega)) hq)).trans (h3 i hi)⟩

/-- Where blocks of Q stand, data in them stand. -/
theorem DatQ.keep {Q Q' : Nat → Prop} {w w' : World} (hw : ∀ k, k < w.heap.size → Q k → w'.heap[k]? = w.heap[k]?) (hQ : ∀ k, k < w.heap.size → Q k → Q' k) : {h : Nat} → {d : Tr h} → {cs : List Value} → DatQ Q w h d cs → DatQ Q' w' h d cs
  | 0, _, _, h => h.elim
  | h + 1, (k, n, b, L, t, I, R), cs, hd => by
    obtain ⟨um, ui, ur, e, h0, h1, h2, h3, h4, v1, v2, v3⟩ := hd
    refine ⟨um, ui, ur, e, h0, h1.blk v1 hw, h2, h3.blk v2 hw (fun _ _ h => DatQ.keep hw hQ h), h4.blk v3 hw (fun _ _ h => DatQ.keep hw hQ h), ?_, ?_, ?_⟩
    · rcases v1 with v | ⟨a, l, c, e, hq⟩
      · exact .inl v
      · subst e
        by_cases hn : L.length = 0
        · exact .inl hn
        · obtain ⟨ao, cap, e, -, -, -, h3⟩ := h1
          cases e
          rcases h3 with h3 | ⟨b, off, e, h3⟩
          · exact absurd h3 hn
          · cases e
            exact .inr ⟨_, _, _, rfl, hQ _ (Rd.lt h3 (by omega)) hq⟩
    · exact rowQ h3 v2 hQ
    · exact rowQ h4 v3 hQ
where
  rowQ {α : Type} {Q Q' : Nat → Prop} {w : World} {P : α → List Value → Prop} {v : Value} {I : List α} (h : RowD w P v I) (hv : VQ Q v I.length) (hQ : ∀ k, k < w.heap.size → Q k → Q' k) : VQ Q' v I.length := by
    rcases hv with hv | ⟨a, l, c, e, hq⟩
    · exact .inl hv
    · subst e
      by_cases hn : I.length = 0
      · exact .inl hn
      · obtain ⟨ao, cap, e, -, -, h3⟩ := h
        cases e
        rcases h3 with h3 | ⟨b, off, e, h3⟩
        · exact absurd h3 hn
        · cases e
          obtain ⟨cs, k1, k2, -⟩ := h3 0 (by omega)
          have k0 := k2 0 (by decide)
          have : cs[0]? = some (cs[0]'(by omega)) := List.getElem?_eq_getElem (by omega)
          rw [this] at k0
          exact .inr ⟨_, _, _, rfl, hQ _ (World.block_lt_of_cell? w _ k0) hq⟩

end Go.Proofs.YtfplplobhmacoaaGreatDoor
