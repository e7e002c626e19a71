/-
  What is proved here: what tandemlaw00.CopyProtos has made when so many protos are copied, each in blocks of its own; no walk.
-/
import Derived.Test.YtilcigjhogcjkaaPKCopyC
namespace Go.Proofs.Ytilcigjhogcjkaa
open Go Go.RowKit

theorem own_at {B s : Nat} {E : TypeId} {w w' : World} {v : Value} {n : Nat} {xs : List Value} (h : w.ownsRow B E s v n xs) (k : ∀ g, v.ownBlock = some g → w'.heap[g]? = w.heap[g]?) : w'.ownsRow B E s v n xs := by
  refine ⟨h.1, ?_⟩
  rcases h.2 with e | ⟨g, cap, cur, e1, e2, e3, e4⟩
  · exact .inl e
  · exact .inr ⟨g, cap, cur, e1, e2, (k g (by rw [e1]; rfl)).trans e3, e4⟩
theorem own_le {B B' s : Nat} {E : TypeId} {w : World} {v : Value} {n : Nat} {xs : List Value} (h : w.ownsRow B E s v n xs) (hb : B' ≤ B) : w.ownsRow B' E s v n xs := by
  refine ⟨h.1, ?_⟩
  rcases h.2 with e | ⟨g, cap, cur, e1, e2, e3, e4⟩
  · exact .inl e
  · exact .inr ⟨g, cap, cur, e1, Nat.le_trans hb e2, e3, e4⟩

/-- A copy of a proto: its code in a block from lo on and below m1, its constants in blocks from m1 on and below m2, its names in one from m2 on and below hi; none of these is ob. -/
def PO {N : Nat} (lo hi : Nat) (ob : Option Nat) (w : World) (p : PC N) (cs : List Value) : Prop :=
  ∃ m1 m2 co cc ka kc na nc, cs = [.string p.nm, .int .i64 p.args, .int .i64 p.free, .bool p.rest, .slice co p.code.length cc, .slice ka p.ks.length kc, .slice na p.ns.length nc] ∧ (lo ≤ m1 ∧ m1 ≤ m2 ∧ m2 ≤ hi) ∧
    (w.ownsRow lo 50 3 (.slice co p.code.length cc) p.code.length (cI p.code) ∧ ∀ b, (Value.slice co p.code.length cc).ownBlock = some b → b < m1 ∧ ob ≠ some b) ∧
    (RowD w (DatQ (fun b => m1 ≤ b ∧ b < m2 ∧ ob ≠ some b) w N) (.slice ka p.ks.length kc) p.ks ∧ VQ (fun b => m1 ≤ b ∧ b < m2 ∧ ob ≠ some b) (.slice ka p.ks.length kc) p.ks.length) ∧
    (w.ownsRow m2 9 1 (.slice na p.ns.length nc) p.ns.length (cN p.ns) ∧ ∀ b, (Value.slice na p.ns.length nc).ownBlock = some b → b < hi ∧ ob ≠ some b)
theorem VQ.imp {Q Q' : Nat → Prop} {v : Value} {n : Nat} (h : VQ Q v n) (hQ : ∀ b, Q b → Q' b) : VQ Q' v n := by
  rcases h with e | ⟨a, l, c, e, q⟩
  · exact .inl e
  · exact .inr ⟨a, l, c, e, hQ _ q⟩
theorem PO.keep {N : Nat} {lo hi lo' hi' : Nat} {ob ob' : Option Nat} {w w' : World} {p : PC N} {cs : List Value} (h : PO lo hi ob w p cs) (hlo : lo' ≤ lo) (hhi : hi ≤ hi') (hw : ∀ k, k < w.heap.size → lo ≤ k → k < hi → ob ≠ some k → w'.heap[k]? = w.heap[k]?) (hob : ∀ k, k < w.heap.size → lo ≤ k → k < hi → ob ≠ some k → ob' ≠ some k) : PO lo' hi' ob' w' p cs := by
  obtain ⟨m1, m2, co, cc, ka, kc, na, nc, e, hm, ⟨h1, q1⟩, ⟨h2, q2⟩, h3, q3⟩ := h
  have hks : ∀ Q' : Nat → Prop, (∀ k, k < w.heap.size → (m1 ≤ k ∧ k < m2 ∧ ob ≠ some k) → Q' k) → RowD w' (DatQ Q' w' N) (.slice ka p.ks.length kc) p.ks ∧ VQ Q' (.slice ka p.ks.length kc) p.ks.length := fun Q' hQ' => by
    have hw' : ∀ k, k < w.heap.size → (m1 ≤ k ∧ k < m2 ∧ ob ≠ some k) → w'.heap[k]? = w.heap[k]? := fun k hk hq => hw k hk (by omega) (by omega) hq.2.2
    refine ⟨h2.blk q2 hw' (fun _ _ h => h.keep hw' hQ'), ?_⟩
    rcases q2 with e | ⟨a, l, c, ea, hq⟩
    · exact .inl e
    · by_cases h0 : p.ks.length = 0
      · exact .inl h0
      · refine .inr ⟨a, l, c, ea, hQ' _ ?_ hq⟩
        obtain ⟨ao, cap, e, -, -, h2'⟩ := h2
        rcases h2' with e2 | ⟨b, off, e2, hc⟩
        · omega
        · rw [e, e2] at ea
          cases ea
          obtain ⟨cs, k1, k2, -⟩ := hc 0 (by omega)
          have k0 := k2 0 (by decide)
          have : cs[0]? = some (cs[0]'(by omega)) := List.getElem?_eq_getElem (by omega)
          rw [this] at k0
          exact World.block_lt_of_cell? w _ k0
  refine ⟨m1, m2, co, cc, ka, kc, na, nc, e, by omega, ⟨own_le (own_at h1 (fun g hg => ?_)) hlo, fun b hb => ?_⟩, hks _ (fun k hk hq => ⟨hq.1, hq.2.1, hob k hk (by omega) (by omega) hq.2.2⟩), own_at h3 (fun g hg => ?_), fun b hb => ?_⟩
  · have := h1.lt g hg
    have := q1 g hg
    exact hw g (by omega) (by omega) (by omega) this.2
  · have := h1.lt b hb
    have := q1 b hb
    exact ⟨this.1, hob b (by omega) (by omega) (by omega) this.2⟩
  · have := h3.lt g hg
    have := q3 g hg
    exact hw g (by omega) (by omega) (by omega) this.2
  · have := h3.lt b hb
    have := q3 b hb
    exact ⟨by omega, hob b (by omega) (by omega) (by omega) this.2⟩
theorem own_code {w : World} {B : Nat} {co : Option Addr} {cc : Nat} {l : List (Int × Int × Int)} (h : w.ownsRow B 50 3 (.slice co l.length cc) l.length (cI l)) : CodeL w co cc l ∧ (co = none → cc = 0) := by
  have h' := h
  obtain ⟨ao, cap, e, m, n, o⟩ := own_shape h
  cases e
  refine ⟨(codeL_of m n o).1, fun e => ?_⟩
  rcases h'.2 with ⟨e', -⟩ | ⟨g, cap, cur, e', -⟩
  · injection e' with _ _ e3
  · rw [e] at e'; cases e'
theorem own_names {w : World} {B : Nat} {na : Option Addr} {nc : Nat} {l : List ByteArray} (h : w.ownsRow B 9 1 (.slice na l.length nc) l.length (cN l)) : NameL w na nc l ∧ (na = none → nc = 0) := by
  have h' := h
  obtain ⟨ao, cap, e, m, n, o⟩ := own_shape h
  cases e
  refine ⟨(nameL_of m n o).1, fun e => ?_⟩
  rcases h'.2 with ⟨e', -⟩ | ⟨g, cap, cur, e', -⟩
  · injection e' with _ _ e3
  · rw [e] at e'; cases e'
theorem pcellN_mk {N : Nat} {w : World} {p : PC N} {co ka na : Option Addr} {cc kc nc : Nat} (h1 : CodeL w co cc p.code ∧ (co = none → cc = 0)) (h2 : RowD w (DatC w N) (.slice ka p.ks.length kc) p.ks) (h3 : NameL w na nc p.ns ∧ (na = none → nc = 0)) :
    PCellN w p [.string p.nm, .int .i64 p.args, .int .i64 p.free, .bool p.rest, .slice co p.code.length cc, .slice ka p.ks.length kc, .slice na p.ns.length nc] := by
  refine ⟨⟨co, cc, ka, kc, na, nc, rfl, h1.1, h2, h3.1⟩, fun n c e => ?_, fun n c e => ?_⟩
  · simp at e
    rw [← e.2.2]
    exact h1.2 e.1
  · simp at e
    rw [← e.2.2]
    exact h3.2 e.1
theorem PO.cellN {N : Nat} {lo hi : Nat} {ob : Option Nat} {w : World} {p : PC N} {cs : List Value} (h : PO lo hi ob w p cs) : PCellN w p cs := by
  obtain ⟨m1, m2, co, cc, ka, kc, na, nc, e, hm, ⟨h1, q1⟩, ⟨h2, q2⟩, h3, q3⟩ := h
  subst e
  exact pcellN_mk (own_code h1) (h2.mono (fun _ _ h => h.dat)) (own_names h3)

/-- k protos are copied; L: from which block on each of them lies. -/
structure CPO {N : Nat} (w : World) (ps : List (PC N)) (k : Nat) (v : Value) (xs : List Value) (wr : World) (L : Nat → Nat) : Prop where
  fr : Fr (fun _ => False) w wr
  own : wr.ownsRow w.heap.size 48 7 v k xs
  lo : w.heap.size ≤ L 0
  up : ∀ j, j < k → L j ≤ L (j + 1)
  top : L k ≤ wr.heap.size
  it : ∀ j (hj : j < ps.length), j < k → PO (L j) (L (j + 1)) v.ownBlock wr ps[j] (seven xs j)
theorem CPO.mono {N : Nat} {w : World} {ps : List (PC N)} {k : Nat} {v : Value} {xs : List Value} {wr : World} {L : Nat → Nat} (h : CPO w ps k v xs wr L) : ∀ j, j ≤ k → L 0 ≤ L j ∧ L j ≤ L k := by
  have h1 : ∀ j, j ≤ k → L 0 ≤ L j := fun j => by
    induction j with
    | zero => intro _; exact Nat.le_refl _
    | succ j ih => intro hj; have := ih (by omega); have := h.up j (by omega); omega
  have h2 : ∀ d, d ≤ k → L (k - d) ≤ L k := fun d => by
    induction d with
    | zero => intro _; exact Nat.le_refl _
    | succ d ih =>
      intro hd
      have := ih (by omega)
      have := h.up (k - (d + 1)) (by omega)
      rw [show k - (d + 1) + 1 = k - d by omega] at this
      omega
  intro j hj
  have := h2 (k - j) (by omega)
  rw [show k - (k - j) = j by omega] at this
  exact ⟨h1 j hj, this⟩
theorem CPO.next {N : Nat} {w : World} {ps : List (PC N)} {k : Nat} {v : Value} {xs : List Value} {wr w2 w9 : World} {L : Nat → Nat} {d0 d1 d2 d3 d4 d5 d6 : Value} {o : Obj} {g cap : Nat} (hA : CPO w ps k v xs wr L) (hk : k < ps.length) (F2 : Fr (fun _ => False) wr w2) (hd : PO wr.heap.size w2.heap.size none w2 ps[k] [d0, d1, d2, d3, d4, d5, d6])
    (hown : w9.ownsRow w.heap.size 48 7 (.slice (some ⟨g, 0, none⟩) (k + 1) cap) (k + 1) (xs ++ [d0, d1, d2, d3, d4, d5, d6])) (hgrow : (w2.alloc o).grownBy w9 v.ownBlock) (hat : v.ownBlock = some g ∨ g = w2.heap.size + 1) :
    CPO w ps (k + 1) (.slice (some ⟨g, 0, none⟩) (k + 1) cap) (xs ++ [d0, d1, d2, d3, d4, d5, d6]) w9 (fun j => if j ≤ k then L j else w2.heap.size) := by
  have hlen := hA.own.1
  have hs2 := F2.size
  have hs0 := hA.fr.size
  have hs9 : w2.heap.size + 1 ≤ w9.heap.size := by have := hgrow.size; simp at this; exact this
  have htop := hA.top
  have vlt : ∀ b, v.ownBlock = some b → w.heap.size ≤ b ∧ b < wr.heap.size := fun b hb => hA.own.lt b hb
  refine ⟨(hA.fr.trans (F2.alloc o) (fun _ _ e => e)).grow hgrow (fun b hb e => by have := (vlt b e).1; omega), hown, ?_, fun j hj => ?_, ?_, fun j hj hjk => ?_⟩
  · simp only [Nat.zero_le, if_true]
    exact hA.lo
  · by_cases e : j = k
    · subst e
      simp only [Nat.le_refl, if_true]
      rw [if_neg (by omega)]
      omega
    · rw [if_pos (by omega), if_pos (by omega)]
      exact hA.up j (by omega)
  · rw [if_neg (by omega)]
    omega
  · by_cases e : j = k
    · subst e
      rw [seven_new hlen rfl]
      simp only [Nat.le_refl, if_true]
      rw [if_neg (by omega)]
      refine hd.keep htop (Nat.le_refl _) (fun b hb h1 h2 _ => ?_) (fun b hb h1 h2 _ e => ?_)
      · rw [hgrow.block b (by simp; omega) (fun e => by have := (vlt b e.symm).2; omega)]
        exact heap_alloc_old _ _ hb
      · have e' : g = b := by simpa [Value.ownBlock] using e
        rcases hat with h1 | h1
        · have := (vlt g h1).2; omega
        · omega
    · rw [seven_old hlen (by omega)]
      rw [if_pos (by omega), if_pos (by omega)]
      refine (hA.it j hj (by omega)).keep (Nat.le_refl _) (Nat.le_refl _) (fun b hb h1 h2 hq => ?_) (fun b hb h1 h2 hq e => ?_)
      · rw [hgrow.block b (by simp; omega) (fun e => hq e.symm), heap_alloc_old _ _ (by omega)]
        exact F2.block b hb (fun e => e)
      · have e' : g = b := by simpa [Value.ownBlock] using e
        rcases hat with h1 | h1
        · exact hq (by rw [h1, e'])
        · omega
/-- The seven cells of a copy. -/
theorem CPO.cells {N : Nat} {w : World} {ps : List (PC N)} {G cap : Nat} {xs : List Value} {wr : World} {L : Nat → Nat} (hA : CPO w ps ps.length (.slice (some ⟨G, 0, none⟩) ps.length cap) xs wr L) {i : Nat} (hi : i < ps.length) : (seven xs i).length = 7 ∧ (∀ j, j < 7 → wr.cell? ⟨G, i * 7 + j, none⟩ = (seven xs i)[j]?) ∧ G < wr.heap.size ∧ w.heap.size ≤ G ∧ ps.length ≤ cap ∧ cap ≤ 9223372036854775807 := by
  have hlen := hA.own.1
  rcases hA.own.2 with ⟨e, h0⟩ | ⟨g, cap', cur, e, h1, h2, h3, h4, h5, h6⟩
  · cases e
  · cases e
    refine ⟨?_, fun j hj => ?_, (Array.getElem?_eq_some_iff.1 h2).1, h1, h3, by unfold maxLen at h4; omega⟩
    · unfold seven
      rw [List.length_take, List.length_drop]
      omega
    · rw [cell_of_row wr G _ cur _ _ h2, ← Array.getElem?_toList]
      unfold seven
      rw [List.getElem?_take, if_pos hj, List.getElem?_drop]
      have := congrArg (fun l : List Value => l[i * 7 + j]?) h6
      simp only [List.getElem?_take] at this
      rw [if_pos (by omega)] at this
      exact this
/-- Copies of which one is turned. -/
theorem CPO.turned {N : Nat} {w : World} {ps : List (PC N)} {G cap : Nat} {xs : List Value} {wr w3 : World} {L : Nat → Nat} (hA : CPO w ps ps.length (.slice (some ⟨G, 0, none⟩) ps.length cap) xs wr L) {j : Nat} (hj : j < ps.length) (p' : PC N) (cs' : List Value) (hl : cs'.length = 7) (hc : ∀ i, i < 7 → w3.cell? ⟨G, j * 7 + i, none⟩ = cs'[i]?)
    (ho : ∀ i, i < ps.length → i ≠ j → ∀ q, q < 7 → w3.cell? ⟨G, i * 7 + q, none⟩ = wr.cell? ⟨G, i * 7 + q, none⟩) (hk : ∀ b, b < wr.heap.size → b ≠ G → ¬ (L j ≤ b ∧ b < L (j + 1)) → w3.heap[b]? = wr.heap[b]?) (hp : PCellN w3 p' cs') :
    RowD w3 (PCellN w3) (.slice (some ⟨G, 0, none⟩) ps.length cap) (ps.set j p') := by
  obtain ⟨-, -, -, -, hcap, hcap2⟩ := hA.cells hj
  refine ⟨some ⟨G, 0, none⟩, cap, by rw [List.length_set], by rw [List.length_set]; exact hcap, hcap2, .inr ⟨G, 0, rfl, fun i hi => ?_⟩⟩
  rw [List.length_set] at hi
  by_cases e : i = j
  · subst e
    refine ⟨cs', hl, fun q hq => ?_, ?_⟩
    · rw [Nat.zero_add]; exact hc q hq
    · rw [List.getElem_set_self]; exact hp
  · obtain ⟨c1, c2, -⟩ := hA.cells hi
    refine ⟨seven xs i, c1, fun q hq => ?_, ?_⟩
    · rw [Nat.zero_add, ho i hi e q hq]; exact c2 q hq
    · rw [List.getElem_set_ne (fun h => e h.symm)]
      refine PO.cellN (ob := some G) ((hA.it i hi hi).keep (Nat.le_refl _) (Nat.le_refl _) (fun b hb h1 h2 hq => hk b hb (fun e => hq (by rw [e]; rfl)) (fun hr => ?_)) (fun b _ _ _ hq => hq))
      have m := hA.mono
      rcases Nat.lt_or_gt_of_ne e with h | h
      · have h3 : L (i + 1) ≤ L j := by
          have : ∀ d, i + 1 + d ≤ ps.length → L (i + 1) ≤ L (i + 1 + d) := fun d => by
            induction d with
            | zero => intro _; exact Nat.le_refl _
            | succ d ih => intro hd; have := ih (by omega); have := hA.up (i + 1 + d) (by omega); rw [show i + 1 + (d + 1) = i + 1 + d + 1 by omega]; omega
          have := this (j - (i + 1)) (by omega)
          rw [show i + 1 + (j - (i + 1)) = j by omega] at this
          exact this
        omega
      · have h3 : L (j + 1) ≤ L i := by
          have : ∀ d, j + 1 + d ≤ ps.length → L (j + 1) ≤ L (j + 1 + d) := fun d => by
            induction d with
            | zero => intro _; exact Nat.le_refl _
            | succ d ih => intro hd; have := ih (by omega); have := hA.up (j + 1 + d) (by omega); rw [show j + 1 + (d + 1) = j + 1 + d + 1 by omega]; omega
          have := this (i - (j + 1)) (by omega)
          rw [show j + 1 + (i - (j + 1)) = i by omega] at this
          exact this
        omega
/-- A copy, at the world that the walk shows. -/
theorem po_make {N : Nat} {w6 w7 w8 : World} {B : Nat} {x4 x5 x6 : Value} {p : PC N} {co ka na : Option Addr} {cc kc nc : Nat} (hB : B < w6.heap.size) (hC : w6.ownsRow (B + 1) 50 3 (.slice co p.code.length cc) p.code.length (cI p.code)) (F7 : Fr (fun _ => False) (w6.setCell ⟨B, 4, none⟩ x4) w7)
    (hK : RowD w7 (DatQ (fun k => (w6.setCell ⟨B, 4, none⟩ x4).heap.size ≤ k) w7 N) (.slice ka p.ks.length kc) p.ks) (hV : VQ (fun k => (w6.setCell ⟨B, 4, none⟩ x4).heap.size ≤ k) (.slice ka p.ks.length kc) p.ks.length) (F8 : Fr (fun _ => False) (w7.setCell ⟨B, 5, none⟩ x5) w8) (hN : w8.ownsRow (w7.setCell ⟨B, 5, none⟩ x5).heap.size 9 1 (.slice na p.ns.length nc) p.ns.length (cN p.ns)) :
    PO B (w8.setCell ⟨B, 6, none⟩ x6).heap.size none (w8.setCell ⟨B, 6, none⟩ x6) p [.string p.nm, .int .i64 p.args, .int .i64 p.free, .bool p.rest, .slice co p.code.length cc, .slice ka p.ks.length kc, .slice na p.ns.length nc] := by
  have s6 : (w6.setCell ⟨B, 4, none⟩ x4).heap.size = w6.heap.size := by simp [World.setCell]
  have s7 : (w7.setCell ⟨B, 5, none⟩ x5).heap.size = w7.heap.size := by simp [World.setCell]
  have s8 : (w8.setCell ⟨B, 6, none⟩ x6).heap.size = w8.heap.size := by simp [World.setCell]
  have h7 := F7.size
  have h8 := F8.size
  rw [s6] at hK hV h7
  rw [s7] at hN h8
  rw [s8]
  have k8 : ∀ k, k < w8.heap.size → k ≠ B → (w8.setCell ⟨B, 6, none⟩ x6).heap[k]? = w8.heap[k]? := fun k _ hk => heap_setCell_other _ _ _ _ hk
  have k7 : ∀ k, k < w7.heap.size → k ≠ B → (w8.setCell ⟨B, 6, none⟩ x6).heap[k]? = w7.heap[k]? := fun k hl hk => by
    rw [k8 k (by omega) hk, F8.block k (by omega) (fun e => e), heap_setCell_other _ _ _ _ hk]
  have k6 : ∀ k, k < w6.heap.size → k ≠ B → (w8.setCell ⟨B, 6, none⟩ x6).heap[k]? = w6.heap[k]? := fun k hl hk => by
    rw [k7 k (by omega) hk, F7.block k (by omega) (fun e => e), heap_setCell_other _ _ _ _ hk]
  refine ⟨w6.heap.size, w7.heap.size, co, cc, ka, kc, na, nc, rfl, by omega, ⟨own_le (own_at hC (fun g hg => ?_)) (by omega), fun b hb => ?_⟩, ⟨hK.blk hV (fun k hl hq => k7 k hl (by omega)) (fun _ _ h => h.keep (fun k hl hq => k7 k hl (by omega)) (fun k hl hq => ⟨hq, hl, by simp⟩)), ?_⟩, own_at hN (fun g hg => ?_), fun b hb => ?_⟩
  · have := hC.lt g hg
    exact k6 g (by omega) (by omega)
  · have := hC.lt b hb
    exact ⟨by omega, by simp⟩
  · rcases hV with e | ⟨a, l, c, ea, hq⟩
    · exact .inl e
    · by_cases h0 : p.ks.length = 0
      · exact .inl h0
      · refine .inr ⟨a, l, c, ea, hq, ?_, by simp⟩
        obtain ⟨ao, cap, e, -, -, h2'⟩ := hK
        rcases h2' with e2 | ⟨b, off, e2, hc⟩
        · omega
        · rw [e, e2] at ea
          cases ea
          obtain ⟨cs, k1, k2, -⟩ := hc 0 (by omega)
          have k0 := k2 0 (by decide)
          have : cs[0]? = some (cs[0]'(by omega)) := List.getElem?_eq_getElem (by omega)
          rw [this] at k0
          exact World.block_lt_of_cell? w7 _ k0
  · have := hN.lt g hg
    exact k8 g (by omega) (by omega)
  · have := hN.lt b hb
    exact ⟨by omega, by simp⟩
theorem CPO.step {N : Nat} {w : World} {ps : List (PC N)} {k : Nat} {v : Value} {xs : List Value} {wr w8 w9 : World} {L : Nat → Nat} {B : Nat} {c : Value} {d0 d1 d2 d3 d4 d5 d6 : Value} {o : Obj} {g cap : Nat} (hA : CPO w ps k v xs wr L) (hk : k < ps.length) (F8 : Fr (fun _ => False) wr (w8.setCell ⟨B, 6, none⟩ c)) (hd : PO wr.heap.size (w8.setCell ⟨B, 6, none⟩ c).heap.size none (w8.setCell ⟨B, 6, none⟩ c) ps[k] [d0, d1, d2, d3, d4, d5, d6])
    (hown : w9.ownsRow w.heap.size 48 7 (.slice (some ⟨g, 0, none⟩) (k + 1) cap) (k + 1) (xs ++ [d0, d1, d2, d3, d4, d5, d6])) (hgrow : ((w8.setCell ⟨B, 6, none⟩ c).alloc o).grownBy w9 v.ownBlock) (hat : v.ownBlock = some g ∨ g = w8.heap.size + 1) :
    CPO w ps (k + 1) (.slice (some ⟨g, 0, none⟩) (k + 1) cap) (xs ++ [d0, d1, d2, d3, d4, d5, d6]) w9 (fun j => if j ≤ k then L j else w8.heap.size) := by
  have s8 : (w8.setCell ⟨B, 6, none⟩ c).heap.size = w8.heap.size := by simp [World.setCell]
  have := hA.next hk F8 hd hown hgrow (by rw [s8]; exact hat)
  rw [s8] at this
  exact this

end Go.Proofs.Ytilcigjhogcjkaa
