/-
  What is proved here: what tandemlaw00.CopyProtos has made when so many protos are copied, with all that is in them; no walk.
-/
import Derived.Test.YtilcigjhogcjkaaPKPg
import Derived.Deep.Slices
namespace Go.Proofs.Ytilcigjhogcjkaa
open Go Go.RowKit

theorem infoPr : (Try.prog.info? 48).map (fun i => (i.zero, i.size, i.bytes)) = some (some (.agg #[.string ⟨#[]⟩, .int .i64 0, .int .i64 0, .bool false, .slice none 0 0, .slice none 0 0, .slice none 0 0]), 7, 112) := by kernel_rfl
theorem infoIn : (Try.prog.info? 50).map (fun i => (i.zero, i.size, i.bytes)) = some (some (.agg #[.int .i64 0, .int .i64 0, .int .i64 0]), 3, 24) := by kernel_rfl
theorem infoSt : (Try.prog.info? 9).map (fun i => (i.zero, i.size, i.bytes)) = some (some (.string ⟨#[]⟩), 1, 16) := by kernel_rfl

/-- The cells of instructions, of names. -/
def cI (l : List (Int × Int × Int)) : List Value := l.flatMap fun x => [.int .i64 x.1, .int .i64 x.2.1, .int .i64 x.2.2]
def cN (l : List ByteArray) : List Value := l.map Value.string
theorem cI_len : ∀ l, (cI l).length = l.length * 3
  | [] => rfl
  | x :: l => by
    have e : cI (x :: l) = [.int .i64 x.1, .int .i64 x.2.1, .int .i64 x.2.2] ++ cI l := rfl
    rw [e, List.length_append, cI_len l]
    simp
    omega
theorem cI_get : ∀ (l : List (Int × Int × Int)) (j : Nat) (hj : j < l.length), (cI l)[j * 3]? = some (.int .i64 l[j].1) ∧ (cI l)[j * 3 + 1]? = some (.int .i64 l[j].2.1) ∧ (cI l)[j * 3 + 2]? = some (.int .i64 l[j].2.2)
  | [], j, hj => by simp at hj
  | x :: l, 0, _ => by simp [cI]
  | x :: l, j + 1, hj => by
    have ih := cI_get l j (by simpa using hj)
    have e : cI (x :: l) = .int .i64 x.1 :: .int .i64 x.2.1 :: .int .i64 x.2.2 :: cI l := rfl
    have e1 : (j + 1) * 3 = j * 3 + 3 := by omega
    rw [e, e1]
    exact ih
theorem cI_one (l : List (Int × Int × Int)) : ∀ u ∈ cI l, u.oneCell' = true := fun u hu => by
  simp only [cI, List.mem_flatMap] at hu
  obtain ⟨j, -, hj⟩ := hu
  simp at hj
  rcases hj with rfl | rfl | rfl <;> rfl
theorem cN_one (l : List ByteArray) : ∀ u ∈ cN l, u.oneCell' = true := fun u hu => by
  simp only [cN, List.mem_map] at hu
  obtain ⟨x, -, rfl⟩ := hu
  rfl
theorem CodeL.news {w : World} {co : Option Addr} {cc : Nat} {l : List (Int × Int × Int)} (h : CodeL w co cc l) : ∀ ad, co = some ad → ∀ j u, (cI l)[j]? = some u → w.cell? (ad.add j) = some u := fun ad ea j u hj => by
  have hlt : j < l.length * 3 := by
    rw [← cI_len]
    exact (List.getElem?_eq_some_iff.1 hj).1
  rcases h.2.2 with e | ⟨g, off, e, hc⟩
  · rw [e] at hlt; omega
  · rw [e] at ea
    cases ea
    obtain ⟨c0, c1, c2⟩ := hc (j / 3) (by omega)
    obtain ⟨g0, g1, g2⟩ := cI_get l (j / 3) (by omega)
    rw [Addr.add_lit]
    have hm : j % 3 = 0 ∨ j % 3 = 1 ∨ j % 3 = 2 := by omega
    rcases hm with hm | hm | hm
    · have ej : j = j / 3 * 3 := by omega
      rw [ej] at hj ⊢
      rw [g0] at hj
      cases hj
      exact c0
    · have ej : j = j / 3 * 3 + 1 := by omega
      rw [ej] at hj ⊢
      rw [g1] at hj
      cases hj
      exact c1
    · have ej : j = j / 3 * 3 + 2 := by omega
      rw [ej] at hj ⊢
      rw [g2] at hj
      cases hj
      exact c2
theorem NameL.news {w : World} {na : Option Addr} {nc : Nat} {l : List ByteArray} (h : NameL w na nc l) : ∀ ad, na = some ad → ∀ j u, (cN l)[j]? = some u → w.cell? (ad.add j) = some u := fun ad ea j u hj => by
  have hlt : j < l.length := by
    have := (List.getElem?_eq_some_iff.1 hj).1
    simpa [cN] using this
  rcases h.2.2 with e | ⟨g, off, e, hc⟩
  · omega
  · rw [e] at ea
    cases ea
    rw [Addr.add_lit, hc j hlt]
    simpa [cN, hlt] using hj

/-- All that is in a proto, in blocks of Q. -/
def AQ (Q : Nat → Prop) (co : Option Addr) (n : Nat) : Prop := n = 0 ∨ ∃ a, co = some a ∧ Q a.block
def PQ {N : Nat} (Q : Nat → Prop) (w : World) (p : PC N) (cs : List Value) : Prop :=
  ∃ co cc ka kc na nc, cs = [.string p.nm, .int .i64 p.args, .int .i64 p.free, .bool p.rest, .slice co p.code.length cc, .slice ka p.ks.length kc, .slice na p.ns.length nc] ∧ (CodeL w co cc p.code ∧ AQ Q co p.code.length) ∧ (RowD w (DatQ Q w N) (.slice ka p.ks.length kc) p.ks ∧ VQ Q (.slice ka p.ks.length kc) p.ks.length) ∧ (NameL w na nc p.ns ∧ AQ Q na p.ns.length)
theorem PQ.cell {N : Nat} {Q : Nat → Prop} {w : World} {p : PC N} {cs : List Value} (h : PQ Q w p cs) : PCell w p cs := by
  obtain ⟨co, cc, ka, kc, na, nc, e, h1, h2, h3⟩ := h
  exact ⟨co, cc, ka, kc, na, nc, e, h1.1, h2.1.mono (fun _ _ h => h.dat), h3.1⟩
theorem PQ.keep {N : Nat} {Q Q' : Nat → Prop} {w w' : World} (hw : ∀ k, k < w.heap.size → Q k → w'.heap[k]? = w.heap[k]?) (hQ : ∀ k, k < w.heap.size → Q k → Q' k) {p : PC N} {cs : List Value} (h : PQ Q w p cs) : PQ Q' w' p cs := by
  obtain ⟨co, cc, ka, kc, na, nc, e, ⟨h1, q1⟩, ⟨h2, q2⟩, h3, q3⟩ := h
  refine ⟨co, cc, ka, kc, na, nc, e, ⟨⟨h1.1, h1.2.1, ?_⟩, ?_⟩, ⟨h2.blk q2 hw (fun _ _ h => h.keep hw hQ), ?_⟩, ⟨h3.1, h3.2.1, ?_⟩, ?_⟩
  · rcases h1.2.2 with e | ⟨g, off, ea, hc⟩
    · exact .inl e
    · refine .inr ⟨g, off, ea, fun j hj => ?_⟩
      have hg : w'.heap[g]? = w.heap[g]? := by
        rcases q1 with e | ⟨a, ea', hq⟩
        · omega
        · rw [ea] at ea'
          cases ea'
          exact hw g (World.block_lt_of_cell? w _ (hc j hj).1) hq
      exact ⟨(World.cell?_of_block hg).trans (hc j hj).1, (World.cell?_of_block hg).trans (hc j hj).2.1, (World.cell?_of_block hg).trans (hc j hj).2.2⟩
  · rcases q1 with e | ⟨a, ea, hq⟩
    · exact .inl e
    · by_cases h0 : p.code.length = 0
      · exact .inl h0
      · refine .inr ⟨a, ea, ?_⟩
        rcases h1.2.2 with e | ⟨g, off, ea', hc⟩
        · omega
        · rw [ea] at ea'
          cases ea'
          exact hQ g (World.block_lt_of_cell? w _ (hc 0 (by omega)).1) hq
  · rcases q2 with e | ⟨a, l, c, ea, hq⟩
    · exact .inl e
    · by_cases h0 : p.ks.length = 0
      · exact .inl h0
      · refine .inr ⟨a, l, c, ea, ?_⟩
        obtain ⟨ao, cap, e, -, -, h2'⟩ := h2
        rcases h2' with e2 | ⟨b, off, e2, hc⟩
        · omega
        · rw [e, e2] at ea
          cases ea
          obtain ⟨cs, k1, k2, -⟩ := hc 0 (by omega)
          have k0 := k2 0 (by decide)
          have : cs[0]? = some (cs[0]'(by omega)) := List.getElem?_eq_getElem (by omega)
          rw [this] at k0
          exact hQ b (World.block_lt_of_cell? w _ k0) hq
  · rcases h3.2.2 with e | ⟨g, off, ea, hc⟩
    · exact .inl e
    · refine .inr ⟨g, off, ea, fun j hj => ?_⟩
      have hg : w'.heap[g]? = w.heap[g]? := by
        rcases q3 with e | ⟨a, ea', hq⟩
        · omega
        · rw [ea] at ea'
          cases ea'
          exact hw g (World.block_lt_of_cell? w _ (hc j hj)) hq
      exact (World.cell?_of_block hg).trans (hc j hj)
  · rcases q3 with e | ⟨a, ea, hq⟩
    · exact .inl e
    · by_cases h0 : p.ns.length = 0
      · exact .inl h0
      · refine .inr ⟨a, ea, ?_⟩
        rcases h3.2.2 with e | ⟨g, off, ea', hc⟩
        · omega
        · rw [ea] at ea'
          cases ea'
          exact hQ g (World.block_lt_of_cell? w _ (hc 0 (by omega))) hq

/-- k protos are copied. -/
structure CPP {N : Nat} (w : World) (ps : List (PC N)) (k : Nat) (v : Value) (xs : List Value) (wr : World) : Prop where
  fr : Fr (fun _ => False) w wr
  own : wr.ownsRow w.heap.size 48 7 v k xs
  it : ∀ j (hj : j < ps.length), j < k → PQ (fun b => w.heap.size ≤ b ∧ v.ownBlock ≠ some b) wr ps[j] (seven xs j)
theorem CPP.next {N : Nat} {w : World} {ps : List (PC N)} {k : Nat} {v : Value} {xs : List Value} {wr w2 w9 : World} {d0 d1 d2 d3 d4 d5 d6 : Value} {o : Obj} {g cap : Nat} (hA : CPP w ps k v xs wr) (hk : k < ps.length) (F2 : Fr (fun _ => False) wr w2) (hd : PQ (fun b => wr.heap.size ≤ b) w2 ps[k] [d0, d1, d2, d3, d4, d5, d6])
    (hown : w9.ownsRow w.heap.size 48 7 (.slice (some ⟨g, 0, none⟩) (k + 1) cap) (k + 1) (xs ++ [d0, d1, d2, d3, d4, d5, d6])) (hgrow : (w2.alloc o).grownBy w9 v.ownBlock) (hat : v.ownBlock = some g ∨ g = w2.heap.size + 1) :
    CPP w ps (k + 1) (.slice (some ⟨g, 0, none⟩) (k + 1) cap) (xs ++ [d0, d1, d2, d3, d4, d5, d6]) w9 := by
  have hlen := hA.own.1
  have hs2 := F2.size
  have hs0 := hA.fr.size
  have vlt : ∀ b, v.ownBlock = some b → w.heap.size ≤ b ∧ b < wr.heap.size := fun b hb => hA.own.lt b hb
  refine ⟨(hA.fr.trans (F2.alloc o) (fun _ _ e => e)).grow hgrow (fun b hb e => by have := (vlt b e).1; omega), hown, fun j hj hjk => ?_⟩
  by_cases e : j = k
  · subst e
    rw [seven_new hlen rfl]
    refine PQ.keep (w := w2) (fun b hb hq => ?_) (fun b hb hq => ⟨by omega, fun e => ?_⟩) hd
    · rw [hgrow.block b (by simp; omega) (fun e => by have := (vlt b e.symm).2; omega)]
      exact heap_alloc_old _ _ hb
    · have e' : g = b := by simpa [Value.ownBlock] using e
      rcases hat with h1 | h1
      · have := (vlt g h1).2; omega
      · omega
  · rw [seven_old hlen (by omega)]
    refine PQ.keep (w := wr) (fun b hb hq => ?_) (fun b hb hq => ⟨hq.1, fun e => ?_⟩) (hA.it j hj (by omega))
    · rw [hgrow.block b (by simp; omega) (fun e => hq.2 e.symm), heap_alloc_old _ _ (by omega)]
      exact F2.block b hb (fun e => e)
    · have e' : g = b := by simpa [Value.ownBlock] using e
      rcases hat with h1 | h1
      · exact hq.2 (by rw [h1, e'])
      · omega
theorem CPP.fin {N : Nat} {w : World} {ps : List (PC N)} {v : Value} {xs : List Value} {wr : World} (hA : CPP w ps ps.length v xs wr) : RowD wr (PCell wr) v ps ∧ Fr (fun _ => False) w wr := by
  have hlen := hA.own.1
  rcases hA.own.2 with ⟨rfl, h0⟩ | ⟨g, cap, cur, rfl, h1, h2, h3, h4, h5, h6⟩
  · exact ⟨⟨none, 0, by rw [h0], by omega, by decide, .inl h0⟩, hA.fr⟩
  · refine ⟨⟨some ⟨g, 0, none⟩, cap, rfl, h3, by unfold maxLen at h4; omega, .inr ⟨g, 0, rfl, fun i hi => ⟨seven xs i, ?_, fun j hj => ?_, ?_⟩⟩⟩, hA.fr⟩
    · unfold seven
      rw [List.length_take, List.length_drop]
      omega
    · rw [cell_of_row wr g _ cur _ _ h2, ← Array.getElem?_toList, Nat.zero_add]
      unfold seven
      rw [List.getElem?_take, if_pos hj, List.getElem?_drop]
      have := congrArg (fun l : List Value => l[i * 7 + j]?) h6
      simp only [List.getElem?_take] at this
      rw [if_pos (by omega)] at this
      exact this
    · exact (hA.it i hi hi).cell

end Go.Proofs.Ytilcigjhogcjkaa
