/-
  What is proved here: tandemlaw10.PackCuts of any protos and bytes that come in. what tandemlaw00.CopyProtos has made when so many protos are copied, each in blocks of its own; no walk. tandemlaw00.SameLimbs and SameNum of two numbers that are the same. tandemlaw00.Same and SameAll of two data, or of two rows of data, that are the same, wherever they lie. tandemlaw00's SameCode, SameTexts and SameBytes: whether two lists are the same.
-/
import Derived.Test.YtilcigjhogcjkaaYRPRReadM
import Derived.Test.YtilcigjhogcjkaaPZ8
import Derived.Test.YtilcigjhogcjkaaPZ7
import Derived.Test.YtilcigjhogcjkaaYRPKLiftB
import Derived.Deep.RegionWith
import Derived.Deep.QuietTactic
import Derived.BigQuiet
namespace Go.Proofs.Ytilcigjhogcjkaa
open Go Go.RowKit

theorem BM.up {w w' : World} {ao : Option Addr} {n cap : Nat} {l : List Nat} (h : BM w ao n cap l) (u : Up w w') : BM w' ao n cap l :=
  ⟨h.1, h.2.1, fun ad e j x hj => by
    have := h.2.2 ad e j x hj
    exact (u.cell (p := ad.add j) (World.block_lt_of_cell? w _ this)).trans this⟩

theorem By8.take {l : List Nat} (h : By8 l) (k : Nat) : By8 (l.take k) := fun x hx => h x (List.mem_of_mem_take hx)

theorem own_at {B s : Nat} {E : TypeId} {w w' : World} {v : Value} {n : Nat} {xs : List Value} (h : w.ownsRow B E s v n xs) (k : ∀ g, v.ownBlock = some g → w'.heap[g]? = w.heap[g]?) : w'.ownsRow B E s v n xs := by
  refine ⟨h.1, ?_⟩
  rcases h.2 with e | ⟨g, cap, cur, e1, e2, e3, e4⟩
  · exact .inl e
  · exact .inr ⟨g, cap, cur, e1, e2, (k g (by rw [e1]; rfl)).trans e3, e4⟩

theorem own_le {B B' s : Nat} {E : TypeId} {w : World} {v : Value} {n : Nat} {xs : List Value} (h : w.ownsRow B E s v n xs) (hb : B' ≤ B) : w.ownsRow B' E s v n xs := by
  refine ⟨h.1, ?_⟩
  rcases h.2 with e | ⟨g, cap, cur, e1, e2, e3, e4⟩
  · exact .inl e
  · exact .inr ⟨g, cap, cur, e1, Nat.le_trans hb e2, e3, e4⟩

/-- A copy of a proto: its code in a block from lo on and below m1, its constants in blocks from m1 on and below m2, its names in one from m2 on and below hi; none of these is ob. -/
def PO {N : Nat} (lo hi : Nat) (ob : Option Nat) (w : World) (p : PC N) (cs : List Value) : Prop :=
  ∃ m1 m2 co cc ka kc na nc, cs = [.string p.nm, .int .i64 p.args, .int .i64 p.free, .bool p.rest, .slice co p.code.length cc, .slice ka p.ks.length kc, .slice na p.ns.length nc] ∧ (lo ≤ m1 ∧ m1 ≤ m2 ∧ m2 ≤ hi) ∧
    (w.ownsRow lo 50 3 (.slice co p.code.length cc) p.code.length (cI p.code) ∧ ∀ b, (Value.slice co p.code.length cc).ownBlock = some b → b < m1 ∧ ob ≠ some b) ∧
    (RowD w (DatQ (fun b => m1 ≤ b ∧ b < m2 ∧ ob ≠ some b) w N) (.slice ka p.ks.length kc) p.ks ∧ VQ (fun b => m1 ≤ b ∧ b < m2 ∧ ob ≠ some b) (.slice ka p.ks.length kc) p.ks.length) ∧
    (w.ownsRow m2 9 1 (.slice na p.ns.length nc) p.ns.length (cN p.ns) ∧ ∀ b, (Value.slice na p.ns.length nc).ownBlock = some b → b < hi ∧ ob ≠ some b)

theorem VQ.imp {Q Q' : Nat → Prop} {v : Value} {n : Nat} (h : VQ Q v n) (hQ : ∀ b, Q b → Q' b) : VQ Q' v n := by
  rcases h with e | ⟨a, l, c, e, q⟩
  · exact .inl e
  · exact .inr ⟨a, l, c, e, hQ _ q⟩

theorem PO.keep {N : Nat} {lo hi lo' hi' : Nat} {ob ob' : Option Nat} {w w' : World} {p : PC N} {cs : List Value} (h : PO lo hi ob w p cs) (hlo : lo' ≤ lo) (hhi : hi ≤ hi') (hw : ∀ k, k < w.heap.size → lo ≤ k → k < hi → ob ≠ some k → w'.heap[k]? = w.heap[k]?) (hob : ∀ k, k < w.heap.size → lo ≤ k → k < hi → ob ≠ some k → ob' ≠ some k) : PO lo' hi' ob' w' p cs := by
  obtain ⟨m1, m2, co, cc, ka, kc, na, nc, e, hm, ⟨h1, q1⟩, ⟨h2, q2⟩, h3, q3⟩ := h
  have hks : ∀ Q' : Nat → Prop, (∀ k, k < w.heap.size → (m1 ≤ k ∧ k < m2 ∧ ob ≠ some k) → Q' k) → RowD w' (DatQ Q' w' N) (.slice ka p.ks.length kc) p.ks ∧ VQ Q' (.slice ka p.ks.length kc) p.ks.length := fun Q' hQ' => by
    have hw' : ∀ k, k < w.heap.size → (m1 ≤ k ∧ k < m2 ∧ ob ≠ some k) → w'.heap[k]? = w.heap[k]? := fun k hk hq => hw k hk (by omega) (by omega) hq.2.2
    refine ⟨h2.blk q2 hw' (fun _ _ h => h.keep hw' hQ'), ?_⟩
    rcases q2 with e | ⟨a, l, c, ea, hq⟩
    · exact .inl e
    · by_cases h0 : p.ks.length = 0
      · exact .inl h0
      · refine .inr ⟨a, l, c, ea, hQ' _ ?_ hq⟩
        obtain ⟨ao, cap, e, -, -, h2'⟩ := h2
        rcases h2' with e2 | ⟨b, off, e2, hc⟩
        · omega
        · rw [e, e2] at ea
          cases ea
          obtain ⟨cs, k1, k2, -⟩ := hc 0 (by omega)
          have k0 := k2 0 (by decide)
          have : cs[0]? = some (cs[0]'(by omega)) := List.getElem?_eq_getElem (by omega)
          rw [this] at k0
          exact World.block_lt_of_cell? w _ k0
  refine ⟨m1, m2, co, cc, ka, kc, na, nc, e, by omega, ⟨own_le (own_at h1 (fun g hg => ?_)) hlo, fun b hb => ?_⟩, hks _ (fun k hk hq => ⟨hq.1, hq.2.1, hob k hk (by omega) (by omega) hq.2.2⟩), own_at h3 (fun g hg => ?_), fun b hb => ?_⟩
  · have := h1.lt g hg
    have := q1 g hg
    exact hw g (by omega) (by omega) (by omega) this.2
  · have := h1.lt b hb
    have := q1 b hb
    exact ⟨this.1, hob b (by omega) (by omega) (by omega) this.2⟩
  · have := h3.lt g hg
    have := q3 g hg
    exact hw g (by omega) (by omega) (by omega) this.2
  · have := h3.lt b hb
    have := q3 b hb
    exact ⟨by omega, hob b (by omega) (by omega) (by omega) this.2⟩

theorem own_code {w : World} {B : Nat} {co : Option Addr} {cc : Nat} {l : List (Int × Int × Int)} (h : w.ownsRow B 50 3 (.slice co l.length cc) l.length (cI l)) : CodeL w co cc l ∧ (co = none → cc = 0) := by
  have h' := h
  obtain ⟨ao, cap, e, m, n, o⟩ := own_shape h
  cases e
  refine ⟨(codeL_of m n o).1, fun e => ?_⟩
  rcases h'.2 with ⟨e', -⟩ | ⟨g, cap, cur, e', -⟩
  · injection e' with _ _ e3
  · rw [e] at e'; cases e'

theorem own_names {w : World} {B : Nat} {na : Option Addr} {nc : Nat} {l : List ByteArray} (h : w.ownsRow B 9 1 (.slice na l.length nc) l.length (cN l)) : NameL w na nc l ∧ (na = none → nc = 0) := by
  have h' := h
  obtain ⟨ao, cap, e, m, n, o⟩ := own_shape h
  cases e
  refine ⟨(nameL_of m n o).1, fun e => ?_⟩
  rcases h'.2 with ⟨e', -⟩ | ⟨g, cap, cur, e', -⟩
  · injection e' with _ _ e3
  · rw [e] at e'; cases e'

theorem pcellN_mk {N : Nat} {w : World} {p : PC N} {co ka na : Option Addr} {cc kc nc : Nat} (h1 : CodeL w co cc p.code ∧ (co = none → cc = 0)) (h2 : RowD w (DatC w N) (.slice ka p.ks.length kc) p.ks) (h3 : NameL w na nc p.ns ∧ (na = none → nc = 0)) :
    PCellN w p [.string p.nm, .int .i64 p.args, .int .i64 p.free, .bool p.rest, .slice co p.code.length cc, .slice ka p.ks.length kc, .slice na p.ns.length nc] := by
  refine ⟨⟨co, cc, ka, kc, na, nc, rfl, h1.1, h2, h3.1⟩, fun n c e => ?_, fun n c e => ?_⟩
  · simp at e
    rw [← e.2.2]
    exact h1.2 e.1
  · simp at e
    rw [← e.2.2]
    exact h3.2 e.1

theorem PO.cellN {N : Nat} {lo hi : Nat} {ob : Option Nat} {w : World} {p : PC N} {cs : List Value} (h : PO lo hi ob w p cs) : PCellN w p cs := by
  obtain ⟨m1, m2, co, cc, ka, kc, na, nc, e, hm, ⟨h1, q1⟩, ⟨h2, q2⟩, h3, q3⟩ := h
  subst e
  exact pcellN_mk (own_code h1) (h2.mono (fun _ _ h => h.dat)) (own_names h3)

/-- k protos are copied; L: from which block on each of them lies. -/
structure CPO {N : Nat} (w : World) (ps : List (PC N)) (k : Nat) (v : Value) (xs : List Value) (wr : World) (L : Nat → Nat) : Prop where
  fr : Fr (fun _ => False) w wr
  own : wr.ownsRow w.heap.size 48 7 v k xs
  lo : w.heap.size ≤ L 0
  up : ∀ j, j < k → L j ≤ L (j + 1)
  top : L k ≤ wr.heap.size
  it : ∀ j (hj : j < ps.length), j < k → PO (L j) (L (j + 1)) v.ownBlock wr ps[j] (seven xs j)

theorem CPO.mono {N : Nat} {w : World} {ps : List (PC N)} {k : Nat} {v : Value} {xs : List Value} {wr : World} {L : Nat → Nat} (h : CPO w ps k v xs wr L) : ∀ j, j ≤ k → L 0 ≤ L j ∧ L j ≤ L k := by
  have h1 : ∀ j, j ≤ k → L 0 ≤ L j := fun j => by
    induction j with
    | zero => intro _; exact Nat.le_refl _
    | succ j ih => intro hj; have := ih (by omega); have := h.up j (by omega); omega
  have h2 : ∀ d, d ≤ k → L (k - d) ≤ L k := fun d => by
    induction d with
    | zero => intro _; exact Nat.le_refl _
    | succ d ih =>
      intro hd
      have := ih (by omega)
      have := h.up (k - (d + 1)) (by omega)
      rw [show k - (d + 1) + 1 = k - d by omega] at this
      omega
  intro j hj
  have := h2 (k - j) (by omega)
  rw [show k - (k - j) = j by omega] at this
  exact ⟨h1 j hj, this⟩

theorem CPO.next {N : Nat} {w : World} {ps : List (PC N)} {k : Nat} {v : Value} {xs : List Value} {wr w2 w9 : World} {L : Nat → Nat} {d0 d1 d2 d3 d4 d5 d6 : Value} {o : Obj} {g cap : Nat} (hA : CPO w ps k v xs wr L) (hk : k < ps.length) (F2 : Fr (fun _ => False) wr w2) (hd : PO wr.heap.size w2.heap.size none w2 ps[k] [d0, d1, d2, d3, d4, d5, d6])
    (hown : w9.ownsRow w.heap.size 48 7 (.slice (some ⟨g, 0, none⟩) (k + 1) cap) (k + 1) (xs ++ [d0, d1, d2, d3, d4, d5, d6])) (hgrow : (w2.alloc o).grownBy w9 v.ownBlock) (hat : v.ownBlock = some g ∨ g = w2.heap.size + 1) :
    CPO w ps (k + 1) (.slice (some ⟨g, 0, none⟩) (k + 1) cap) (xs ++ [d0, d1, d2, d3, d4, d5, d6]) w9 (fun j => if j ≤ k then L j else w2.heap.size) := by
  have hlen := hA.own.1
  have hs2 := F2.size
  have hs0 := hA.fr.size
  have hs9 : w2.heap.size + 1 ≤ w9.heap.size := by have := hgrow.size; simp at this; exact this
  have htop := hA.top
  have vlt : ∀ b, v.ownBlock = some b → w.heap.size ≤ b ∧ b < wr.heap.size := fun b hb => hA.own.lt b hb
  refine ⟨(hA.fr.trans (F2.alloc o) (fun _ _ e => e)).grow hgrow (fun b hb e => by have := (vlt b e).1; omega), hown, ?_, fun j hj => ?_, ?_, fun j hj hjk => ?_⟩
  · simp only [Nat.zero_le, if_true]
    exact hA.lo
  · by_cases e : j = k
    · subst e
      simp only [Nat.le_refl, if_true]
      rw [if_neg (by omega)]
      omega
    · rw [if_pos (by omega), if_pos (by omega)]
      exact hA.up j (by omega)
  · rw [if_neg (by omega)]
    omega
  · by_cases e : j = k
    · subst e
      rw [seven_new hlen rfl]
      simp only [Nat.le_refl, if_true]
      rw [if_neg (by omega)]
      refine hd.keep htop (Nat.le_refl _) (fun b hb h1 h2 _ => ?_) (fun b hb h1 h2 _ e => ?_)
      · rw [hgrow.block b (by simp; omega) (fun e => by have := (vlt b e.symm).2; omega)]
        exact heap_alloc_old _ _ hb
      · have e' : g = b := by simpa [Value.ownBlock] using e
        rcases hat with h1 | h1
        · have := (vlt g h1).2; omega
        · omega
    · rw [seven_old hlen (by omega)]
      rw [if_pos (by omega), if_pos (by omega)]
      refine (hA.it j hj (by omega)).keep (Nat.le_refl _) (Nat.le_refl _) (fun b hb h1 h2 hq => ?_) (fun b hb h1 h2 hq e => ?_)
      · rw [hgrow.block b (by simp; omega) (fun e => hq e.symm), heap_alloc_old _ _ (by omega)]
        exact F2.block b hb (fun e => e)
      · have e' : g = b := by simpa [Value.ownBlock] using e
        rcases hat with h1 | h1
        · exact hq (by rw [h1, e'])
        · omega

/-- The seven cells of a copy. -/
theorem CPO.cells {N : Nat} {w : World} {ps : List (PC N)} {G cap : Nat} {xs : List Value} {wr : World} {L : Nat → Nat} (hA : CPO w ps ps.length (.slice (some ⟨G, 0, none⟩) ps.length cap) xs wr L) {i : Nat} (hi : i < ps.length) : (seven xs i).length = 7 ∧ (∀ j, j < 7 → wr.cell? ⟨G, i * 7 + j, none⟩ = (seven xs i)[j]?) ∧ G < wr.heap.size ∧ w.heap.size ≤ G ∧ ps.length ≤ cap ∧ cap ≤ 9223372036854775807 := by
  have hlen := hA.own.1
  rcases hA.own.2 with ⟨e, h0⟩ | ⟨g, cap', cur, e, h1, h2, h3, h4, h5, h6⟩
  · cases e
  · cases e
    refine ⟨?_, fun j hj => ?_, (Array.getElem?_eq_some_iff.1 h2).1, h1, h3, by unfold maxLen at h4; omega⟩
    · unfold seven
      rw [List.length_take, List.length_drop]
      omega
    · rw [cell_of_row wr G _ cur _ _ h2, ← Array.getElem?_toList]
      unfold seven
      rw [List.getElem?_take, if_pos hj, List.getElem?_drop]
      have := congrArg (fun l : List Value => l[i * 7 + j]?) h6
      simp only [List.getElem?_take] at this
      rw [if_pos (by omega)] at this
      exact this

/-- Copies of which one is turned. -/
theorem CPO.turned {N : Nat} {w : World} {ps : List (PC N)} {G cap : Nat} {xs : List Value} {wr w3 : World} {L : Nat → Nat} (hA : CPO w ps ps.length (.slice (some ⟨G, 0, none⟩) ps.length cap) xs wr L) {j : Nat} (hj : j < ps.length) (p' : PC N) (cs' : List Value) (hl : cs'.length = 7) (hc : ∀ i, i < 7 → w3.cell? ⟨G, j * 7 + i, none⟩ = cs'[i]?)
    (ho : ∀ i, i < ps.length → i ≠ j → ∀ q, q < 7 → w3.cell? ⟨G, i * 7 + q, none⟩ = wr.cell? ⟨G, i * 7 + q, none⟩) (hk : ∀ b, b < wr.heap.size → b ≠ G → ¬ (L j ≤ b ∧ b < L (j + 1)) → w3.heap[b]? = wr.heap[b]?) (hp : PCellN w3 p' cs') :
    RowD w3 (PCellN w3) (.slice (some ⟨G, 0, none⟩) ps.length cap) (ps.set j p') := by
  obtain ⟨-, -, -, -, hcap, hcap2⟩ := hA.cells hj
  refine ⟨some ⟨G, 0, none⟩, cap, by rw [List.length_set], by rw [List.length_set]; exact hcap, hcap2, .inr ⟨G, 0, rfl, fun i hi => ?_⟩⟩
  rw [List.length_set] at hi
  by_cases e : i = j
  · subst e
    refine ⟨cs', hl, fun q hq => ?_, ?_⟩
    · rw [Nat.zero_add]; exact hc q hq
    · rw [List.getElem_set_self]; exact hp
  · obtain ⟨c1, c2, -⟩ := hA.cells hi
    refine ⟨seven xs i, c1, fun q hq => ?_, ?_⟩
    · rw [Nat.zero_add, ho i hi e q hq]; exact c2 q hq
    · rw [List.getElem_set_ne (fun h => e h.symm)]
      refine PO.cellN (ob := some G) ((hA.it i hi hi).keep (Nat.le_refl _) (Nat.le_refl _) (fun b hb h1 h2 hq => hk b hb (fun e => hq (by rw [e]; rfl)) (fun hr => ?_)) (fun b _ _ _ hq => hq))
      have m := hA.mono
      rcases Nat.lt_or_gt_of_ne e with h | h
      · have h3 : L (i + 1) ≤ L j := by
          have : ∀ d, i + 1 + d ≤ ps.length → L (i + 1) ≤ L (i + 1 + d) := fun d => by
            induction d with
            | zero => intro _; exact Nat.le_refl _
            | succ d ih => intro hd; have := ih (by omega); have := hA.up (i + 1 + d) (by omega); rw [show i + 1 + (d + 1) = i + 1 + d + 1 by omega]; omega
          have := this (j - (i + 1)) (by omega)
          rw [show i + 1 + (j - (i + 1)) = j by omega] at this
          exact this
        omega
      · have h3 : L (j + 1) ≤ L i := by
          have : ∀ d, j + 1 + d ≤ ps.length → L (j + 1) ≤ L (j + 1 + d) := fun d => by
            induction d with
            | zero => intro _; exact Nat.le_refl _
            | succ d ih => intro hd; have := ih (by omega); have := hA.up (j + 1 + d) (by omega); rw [show j + 1 + (d + 1) = j + 1 + d + 1 by omega]; omega
          have := this (i - (j + 1)) (by omega)
          rw [show j + 1 + (i - (j + 1)) = i by omega] at this
          exact this
        omega

theorem CPO.step {N : Nat} {w : World} {ps : List (PC N)} {k : Nat} {v : Value} {xs : List Value} {wr w8 w9 : World} {L : Nat → Nat} {B : Nat} {c : Value} {d0 d1 d2 d3 d4 d5 d6 : Value} {o : Obj} {g cap : Nat} (hA : CPO w ps k v xs wr L) (hk : k < ps.length) (F8 : Fr (fun _ => False) wr (w8.setCell ⟨B, 6, none⟩ c)) (hd : PO wr.heap.size (w8.setCell ⟨B, 6, none⟩ c).heap.size none (w8.setCell ⟨B, 6, none⟩ c) ps[k] [d0, d1, d2, d3, d4, d5, d6])
    (hown : w9.ownsRow w.heap.size 48 7 (.slice (some ⟨g, 0, none⟩) (k + 1) cap) (k + 1) (xs ++ [d0, d1, d2, d3, d4, d5, d6])) (hgrow : ((w8.setCell ⟨B, 6, none⟩ c).alloc o).grownBy w9 v.ownBlock) (hat : v.ownBlock = some g ∨ g = w8.heap.size + 1) :
    CPO w ps (k + 1) (.slice (some ⟨g, 0, none⟩) (k + 1) cap) (xs ++ [d0, d1, d2, d3, d4, d5, d6]) w9 (fun j => if j ≤ k then L j else w8.heap.size) := by
  have s8 : (w8.setCell ⟨B, 6, none⟩ c).heap.size = w8.heap.size := by simp [World.setCell]
  have := hA.next hk F8 hd hown hgrow (by rw [s8]; exact hat)
  rw [s8] at this
  exact this

theorem up_drew (w : World) : Up w w.drew := ⟨rfl, rfl, rfl, Nat.le_refl _, fun _ _ => rfl⟩

set_option maxHeartbeats 400000 in
theorem sameLimbs_any (ao bo : Option Addr) (n capa capb : Nat) (f : Nat → Nat) (w : World) (ha : Rd .u32 w ao n f) (hb : Rd .u32 w bo n f) (hn : n ≤ 9223372036854775807) :
    Calls Try.prog 78 #[.slice ao n capa, .slice bo n capb] w fun e w' => e = .returned (.bool true) ∧ Up w w' := by
  by_cases h0 : n = 0
  · subst h0
    go_enter Try.func78, Try.ntmps78
    go_wp2
    refine wp_loop_rounds 1 ?_
    rw [rounds_succ]
    go_wp2
    go_ret
    exact ⟨rfl, Up.refl _⟩
  · rcases ha with ha | ⟨b, off, rfl, hca⟩
    · exact absurd ha h0
    rcases hb with hb | ⟨b', off', rfl, hcb⟩
    · exact absurd hb h0
    have hne : ((n : Int) != (n : Int)) = false := by simp
    go_enter Try.func78, Try.ntmps78
    go_wp2
    go_loopw [5] (fun t wr => ∃ k : Nat, k ≤ n ∧ t = .int .i64 k ∧ Up w wr) (fun t _ => n - (intOf t).toNat)
    case atStart => exact ⟨0, Nat.zero_le _, rfl, Up.refl _⟩
    case round =>
      obtain ⟨k, hk, rfl, hbel⟩ := hrel
      by_cases hlt : k < n
      · have hx := (hbel.cell (p := ⟨b, off + k, none⟩) (Rd.lt hca (by omega))).trans (hca k hlt)
        have hy := (hbel.cell (p := ⟨b', off' + k, none⟩) (Rd.lt hcb (by omega))).trans (hcb k hlt)
        generalize f k = x at *
        clear hca hcb
        have hb : ((x : Int) != (x : Int)) = false := by simp
        go_wp2
        go_region
        go_wp2
        refine ⟨⟨k + 1, by omega, by go_num, hbel.tr (up_drew _)⟩, ?_⟩
        simp [intOf]
        omega
      · clear hca hcb
        go_wp2
        go_ret
        exact ⟨rfl, hbel⟩

set_option maxRecDepth 4000 in
set_option maxHeartbeats 1000000 in
theorem sameNum_all (u v : Value) (b : Bool) (n : Nat) (f : Nat → Nat) (w : World) (hu : Sl .u32 w u n f) (hv : Sl .u32 w v n f) :
    Calls Try.prog 67 #[.agg #[.bool b, u], .agg #[.bool b, v]] w fun e w' => e = .returned (.bool true) ∧ Up w w' := by
  obtain ⟨ao, cap, rfl, -⟩ := id hu
  obtain ⟨ao', cap', rfl, -⟩ := id hv
  obtain ⟨h3, h1, h2⟩ := ((hu.up (below_alloc w (.cells #[.bool b, .slice ao n cap] 62))).up (below_alloc _ (.cells #[.bool b, .slice ao' n cap'] 62))).rd
  obtain ⟨g3, g1, g2⟩ := ((hv.up (below_alloc w (.cells #[.bool b, .slice ao n cap] 62))).up (below_alloc _ (.cells #[.bool b, .slice ao' n cap'] 62))).rd
  have KS := hide (sameLimbs_any ao ao' n cap cap' f _ h3 g3 (by omega))
  clear hu hv
  go_enter Try.func67, Try.ntmps67
  cases b <;>
  · go_wp2_with fail
    refine KS.out.mono ?_
    rintro e w1 ⟨rfl, u1⟩
    go_wp2_with fail
    go_ret
    exact ⟨rfl, ((up_alloc w _).tr (up_alloc _ _)).tr u1⟩

def SameOK (h : Nat) : Prop := ∀ (d : Tr h) (c0 c1 c2 c3 c4 c5 c6 e0 e1 e2 e3 e4 e5 e6 : Value) (w : World), DatC w h d [c0, c1, c2, c3, c4, c5, c6] → DatC w h d [e0, e1, e2, e3, e4, e5, e6] →
  Calls Try.prog 51 #[.agg #[c0, c1, c2, c3, c4, c5, c6], .agg #[e0, e1, e2, e3, e4, e5, e6]] w fun e w' => e = .returned (.bool true) ∧ Up w w'

def SameAllOK (h : Nat) : Prop := ∀ (I : List (Tr h)) (u v : Value) (w : World), RowD w (DatC w h) u I → RowD w (DatC w h) v I →
  Calls Try.prog 35 #[u, v] w fun e w' => e = .returned (.bool true) ∧ Up w w'

/-- One of a row's data, in a later world. -/
theorem row_seven {w W : World} {h : Nat} {I : List (Tr h)} {ao : Option Addr} {n cap : Nat} (hr : RowD w (DatC w h) (.slice ao n cap) I) (u : Up w W) {i : Nat} (hi : i < I.length) :
    ∃ b off, ao = some ⟨b, off, none⟩ ∧ ∃ k m bb m1 m2 m3 t i1 i2 i3 r1 r2 r3, DatC W h I[i] [.int .i64 k, .int .i64 m, .bool bb, .slice m1 m2 m3, .string t, .slice i1 i2 i3, .slice r1 r2 r3] ∧
      W.cell? ⟨b, off + i * 7, none⟩ = some (.int .i64 k) ∧ W.cell? ⟨b, off + i * 7 + 1, none⟩ = some (.int .i64 m) ∧ W.cell? ⟨b, off + i * 7 + 2, none⟩ = some (.bool bb) ∧ W.cell? ⟨b, off + i * 7 + 3, none⟩ = some (.slice m1 m2 m3) ∧ W.cell? ⟨b, off + i * 7 + 4, none⟩ = some (.string t) ∧ W.cell? ⟨b, off + i * 7 + 5, none⟩ = some (.slice i1 i2 i3) ∧ W.cell? ⟨b, off + i * 7 + 6, none⟩ = some (.slice r1 r2 r3) := by
  obtain ⟨-, b, off, rfl, cs, k1, k2, k3⟩ := hr.get hi
  refine ⟨b, off, rfl, ?_⟩
  have hlt : b < w.heap.size := by
    have k0 := k2 0 (by decide)
    have : cs[0]? = some (cs[0]'(by omega)) := List.getElem?_eq_getElem (by omega)
    rw [this] at k0
    exact World.block_lt_of_cell? w _ k0
  have k4 : ∀ j, j < 7 → W.cell? ⟨b, off + i * 7 + j, none⟩ = cs[j]? := fun j hj => (u.cell (p := ⟨b, off + i * 7 + j, none⟩) hlt).trans (k2 j hj)
  have k5 := k3.up u
  generalize I[i] = tr at *
  match h, tr, k5 with
  | h + 1, (k, m, bb, L, t, J, R), k5 =>
    obtain ⟨um, ui, ur, rfl, h0, h1, h2, h3, h4⟩ := id k5
    obtain ⟨m1, m3, rfl, -⟩ := id h1
    obtain ⟨i1, i3, rfl⟩ := h3.shape
    obtain ⟨r1, r3, rfl⟩ := h4.shape
    exact ⟨k, m, bb, m1, _, m3, t, i1, _, i3, r1, _, r3, k5, k4 0 (by decide), k4 1 (by decide), k4 2 (by decide), k4 3 (by decide), k4 4 (by decide), k4 5 (by decide), k4 6 (by decide)⟩

set_option maxHeartbeats 4000000 in
set_option maxRecDepth 100000 in
theorem sameAll_of {h : Nat} (hS : SameOK h) : SameAllOK h := by
  intro I u v w hu hv
  obtain ⟨ao, cap, rfl, hc1, hc2, -⟩ := id hu
  obtain ⟨ao', cap', rfl, -⟩ := id hv
  have HU := hide hu
  have HV := hide hv
  have HS := hide hS
  have hIl : I.length ≤ 9223372036854775807 := by omega
  have hne : ((I.length : Int) != (I.length : Int)) = false := by simp
  clear hu hv hS
  go_enter Try.func35, Try.ntmps35
  go_wp2_with fail
  go_loopw [5] (fun t wr => ∃ k : Nat, k ≤ I.length ∧ t = .int .i64 k ∧ Up w wr) (fun t _ => I.length - (intOf t).toNat)
  case atStart => exact ⟨0, Nat.zero_le _, rfl, Up.refl _⟩
  case round =>
    obtain ⟨k, hk, rfl, hup⟩ := hrel
    by_cases hlt : k < I.length
    · obtain ⟨b, off, rfl, c0, c1, c2, m1, m2, m3, c4, i1, i2, i3, r1, r2, r3, hd, e0, e1, e2, e3, e4, e5, e6⟩ := row_seven HU.out (hup.tr (up_drew _)) hlt
      obtain ⟨b', off', rfl, c0', c1', c2', m1', m2', m3', c4', i1', i2', i3', r1', r2', r3', hd', e0', e1', e2', e3', e4', e5', e6'⟩ := row_seven HV.out (hup.tr (up_drew _)) hlt
      have K1 := hide (HS.out _ _ _ _ _ _ _ _ _ _ _ _ _ _ _ _ hd hd')
      have hkI : (k : Int) < (I.length : Int) := by omega
      have HUP := hide hup
      clear hd hd' hup
      go_wp2_with fail
      go_region_with (go_at_call 51; refine K1.out.mono ?_; rintro e w3 ⟨rfl, u3⟩)
      all_goals
        go_wp2_with fail
        refine ⟨⟨k + 1, by omega, by go_num, (HUP.out.tr (up_drew _)).tr u3⟩, ?_⟩
        simp [intOf]
        omega
    · have hkI : ¬ ((k : Int) < (I.length : Int)) := by omega
      go_wp2_with fail
      go_ret
      exact ⟨rfl, hup⟩

set_option maxHeartbeats 4000000 in
set_option maxRecDepth 100000 in
theorem same_of {h : Nat} (hA : SameAllOK h) : SameOK (h + 1) := by
  rintro ⟨k, n, b, L, t, I, R⟩ c0 c1 c2 c3 c4 c5 c6 d0 d1 d2 d3 d4 d5 d6 w hd he
  obtain ⟨um, ui, ur, e, -, hM, -, hI, hR⟩ := hd
  simp at e
  obtain ⟨rfl, rfl, rfl, rfl, rfl, rfl, rfl⟩ := e
  obtain ⟨vm, vi, vr, e, -, gM, -, gI, gR⟩ := he
  simp at e
  obtain ⟨rfl, rfl, rfl, rfl, rfl, rfl, rfl⟩ := e
  have KN := fun (V : World) (u : Up w V) => sameNum_all c3 d3 b L.length (fun i => L.getD i 0) V (hM.below u (Nat.le_refl _)) (gM.below u (Nat.le_refl _))
  have KI := fun (V : World) (u : Up w V) => hA I c5 d5 V (hI.upD u) (gI.upD u)
  have KR := fun (V : World) (u : Up w V) => hA R c6 d6 V (hR.upD u) (gR.upD u)
  obtain ⟨aom, capm, rfl, -⟩ := id hM
  obtain ⟨bom, dapm, rfl, -⟩ := id gM
  obtain ⟨aoi, capi, rfl⟩ := hI.shape
  obtain ⟨aor, capr, rfl⟩ := hR.shape
  obtain ⟨boi, dapi, rfl⟩ := gI.shape
  obtain ⟨bor, dapr, rfl⟩ := gR.shape
  have u1 := up_alloc w (.cells #[.int .i64 k, .int .i64 n, .bool b, .slice aom L.length capm, .string t, .slice aoi I.length capi, .slice aor R.length capr] 64)
  have g1 := heap_alloc_new w (.cells #[.int .i64 k, .int .i64 n, .bool b, .slice aom L.length capm, .string t, .slice aoi I.length capi, .slice aor R.length capr] 64)
  have z1 : (w.alloc (.cells #[.int .i64 k, .int .i64 n, .bool b, .slice aom L.length capm, .string t, .slice aoi I.length capi, .slice aor R.length capr] 64)).heap.size = w.heap.size + 1 := World.size_alloc _ _
  obtain ⟨W1, hW1⟩ : ∃ W1, W1 = w.alloc (.cells #[.int .i64 k, .int .i64 n, .bool b, .slice aom L.length capm, .string t, .slice aoi I.length capi, .slice aor R.length capr] 64) := ⟨_, rfl⟩
  rw [← hW1] at u1 g1 z1
  obtain ⟨W2, hW2⟩ : ∃ W2, W2 = W1.alloc (.cells #[.int .i64 k, .int .i64 n, .bool b, .slice bom L.length dapm, .string t, .slice boi I.length dapi, .slice bor R.length dapr] 64) := ⟨_, rfl⟩
  have u2 : Up W1 W2 := by rw [hW2]; exact up_alloc _ _
  have g2 : W2.heap[w.heap.size + 1]? = some (.cells #[.int .i64 k, .int .i64 n, .bool b, .slice bom L.length dapm, .string t, .slice boi I.length dapi, .slice bor R.length dapr] 64 (0, 0)) := by rw [hW2, ← z1]; exact heap_alloc_new _ _
  have g1' := u2.old g1
  obtain ⟨m0, m1, m2, m3, m4, m5, m6⟩ := cells7 g1'
  obtain ⟨n0, n1, n2, n3, n4, n5, n6⟩ := cells7 g2
  rw [hW1] at hW2
  have HW := hide hW2
  have HG := hide (And.intro g1' (And.intro g2 (u1.tr u2)))
  have HN := hide KN
  have HI := hide KI
  have HR := hide KR
  clear u1 g1 z1 hW1 u2 g2 g1' hW2 KN KI KR hM gM hI gI hR gR hA
  clear W1
  go_enter Try.func51, Try.ntmps51
  go_wp2_with fail
  rw [← HW.out]
  go_wp2_with (first
    | (go_at_call 67; refine (HN.out _ HG.out.2.2).mono ?_; rintro e w3 ⟨rfl, u3⟩; clear m0 m1 m2 m3 m4 m5 m6 n0 n1 n2 n3 n4 n5 n6; obtain ⟨m0, m1, m2, m3, m4, m5, m6⟩ := cells7 (u3.old HG.out.1); obtain ⟨n0, n1, n2, n3, n4, n5, n6⟩ := cells7 (u3.old HG.out.2.1); have HU3 := hide (HG.out.2.2.tr u3); have HG3 := hide (And.intro (u3.old HG.out.1) (u3.old HG.out.2.1)); clear u3)
    | (have h4 := HU4; clear h4; go_at_call 35; refine (HR.out _ HU4.out).mono ?_; rintro e w5 ⟨rfl, u5⟩; have HU5 := hide (HU4.out.tr u5); clear u5)
    | (go_at_call 35; refine (HI.out _ HU3.out).mono ?_; rintro e w4 ⟨rfl, u4⟩; clear m0 m1 m2 m3 m4 m5 m6 n0 n1 n2 n3 n4 n5 n6; obtain ⟨m0, m1, m2, m3, m4, m5, m6⟩ := cells7 (u4.old HG3.out.1); obtain ⟨n0, n1, n2, n3, n4, n5, n6⟩ := cells7 (u4.old HG3.out.2); have HU4 := hide (HU3.out.tr u4); clear u4))
  go_ret
  exact ⟨rfl, HU5.out⟩

theorem same_all : (h : Nat) → SameOK h
  | 0 => fun d => (show Empty from d).elim
  | h + 1 => same_of (sameAll_of (same_all h))

theorem sameAll_all (h : Nat) : SameAllOK h := sameAll_of (same_all h)

theorem CodeL.cells {w W : World} {co : Option Addr} {cc : Nat} {l : List (Int × Int × Int)} (h : CodeL w co cc l) (u : Up w W) {i : Nat} (hi : i < l.length) : ∃ g off, co = some ⟨g, off, none⟩ ∧ W.cell? ⟨g, off + i * 3, none⟩ = some (.int .i64 l[i].1) ∧ W.cell? ⟨g, off + i * 3 + 1, none⟩ = some (.int .i64 l[i].2.1) ∧ W.cell? ⟨g, off + i * 3 + 2, none⟩ = some (.int .i64 l[i].2.2) := by
  rcases (h.up u).2.2 with e | ⟨g, off, ea, hc⟩
  · omega
  · exact ⟨g, off, ea, hc i hi⟩

theorem NameL.cell {w W : World} {na : Option Addr} {nc : Nat} {l : List ByteArray} (h : NameL w na nc l) (u : Up w W) {i : Nat} (hi : i < l.length) : ∃ g off, na = some ⟨g, off, none⟩ ∧ W.cell? ⟨g, off + i, none⟩ = some (.string l[i]) := by
  rcases (h.up u).2.2 with e | ⟨g, off, ea, hc⟩
  · omega
  · exact ⟨g, off, ea, hc i hi⟩

set_option maxHeartbeats 4000000 in
set_option maxRecDepth 100000 in
theorem sameCode_yes (w : World) (l : List (Int × Int × Int)) (a b : Option Addr) (ca cb : Nat) (ha : CodeL w a ca l) (hb : CodeL w b cb l) :
    Calls Try.prog 34 #[.slice a l.length ca, .slice b l.length cb] w fun e w' => e = .returned (.bool true) ∧ Up w w' := by
  have hIl : l.length ≤ 9223372036854775807 := by have := ha.1; have := ha.2.1; omega
  have hne : ((l.length : Int) != (l.length : Int)) = false := by simp
  have HA := hide ha
  have HB := hide hb
  clear ha hb
  go_enter Try.func34, Try.ntmps34
  go_wp2_with fail
  go_loopw [5] (fun t wr => ∃ k : Nat, k ≤ l.length ∧ t = .int .i64 k ∧ Up w wr) (fun t _ => l.length - (intOf t).toNat)
  case atStart => exact ⟨0, Nat.zero_le _, rfl, Up.refl _⟩
  case round =>
    obtain ⟨k, hk, rfl, hup⟩ := hrel
    by_cases hlt : k < l.length
    · obtain ⟨g, off, rfl, e0, e1, e2⟩ := HA.out.cells (hup.tr (up_drew _)) hlt
      obtain ⟨g', off', rfl, f0, f1, f2⟩ := HB.out.cells (hup.tr (up_drew _)) hlt
      have hkI : (k : Int) < (l.length : Int) := by omega
      have HUP := hide hup
      clear hup
      generalize l[k] = x at *
      go_wp2_with fail
      go_region
      all_goals
        go_wp2_with fail
        refine ⟨⟨k + 1, by omega, by go_num, HUP.out.tr (up_drew _)⟩, ?_⟩
        simp [intOf]
        omega
    · have hkI : ¬ ((k : Int) < (l.length : Int)) := by omega
      go_wp2_with fail
      go_ret
      exact ⟨rfl, hup⟩

set_option maxHeartbeats 4000000 in
set_option maxRecDepth 100000 in
theorem sameTexts_yes (w : World) (l : List ByteArray) (a b : Option Addr) (ca cb : Nat) (ha : NameL w a ca l) (hb : NameL w b cb l) :
    Calls Try.prog 36 #[.slice a l.length ca, .slice b l.length cb] w fun e w' => e = .returned (.bool true) ∧ Up w w' := by
  have hIl : l.length ≤ 9223372036854775807 := by have := ha.1; have := ha.2.1; omega
  have hne : ((l.length : Int) != (l.length : Int)) = false := by simp
  have HA := hide ha
  have HB := hide hb
  clear ha hb
  go_enter Try.func36, Try.ntmps36
  go_wp2_with fail
  go_loopw [5] (fun t wr => ∃ k : Nat, k ≤ l.length ∧ t = .int .i64 k ∧ Up w wr) (fun t _ => l.length - (intOf t).toNat)
  case atStart => exact ⟨0, Nat.zero_le _, rfl, Up.refl _⟩
  case round =>
    obtain ⟨k, hk, rfl, hup⟩ := hrel
    by_cases hlt : k < l.length
    · obtain ⟨g, off, rfl, e0⟩ := HA.out.cell (hup.tr (up_drew _)) hlt
      obtain ⟨g', off', rfl, f0⟩ := HB.out.cell (hup.tr (up_drew _)) hlt
      have hkI : (k : Int) < (l.length : Int) := by omega
      have HUP := hide hup
      clear hup
      generalize l[k] = x at *
      go_wp2_with fail
      go_region
      all_goals
        go_wp2_with fail
        refine ⟨⟨k + 1, by omega, by go_num, HUP.out.tr (up_drew _)⟩, ?_⟩
        simp [intOf]
        omega
    · have hkI : ¬ ((k : Int) < (l.length : Int)) := by omega
      go_wp2_with fail
      go_ret
      exact ⟨rfl, hup⟩

end Go.Proofs.Ytilcigjhogcjkaa
