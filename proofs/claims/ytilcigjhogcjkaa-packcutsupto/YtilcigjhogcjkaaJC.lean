/-
  What is proved here: tandemlaw00.CopyAll: a row of data in new memory, given tandemlaw00.Copy of one. the statements' own CopyLimbs makes the same limbs in new memory. tandemlaw00.Copy: a datum in new memory.
-/
import Derived.Test.YtilcigjhogcjkaaJB
import Derived.Test.YtilcigjhogcjkaaJA
namespace Go.Proofs.Ytilcigjhogcjkaa
open Go Go.RowKit

theorem infoD : (Try.prog.info? 64).map (fun i => (i.zero, i.size, i.bytes)) = some (some (.agg #[.int .i64 0, .int .i64 0, .bool false, .slice none 0 0, .string ⟨#[]⟩, .slice none 0 0, .slice none 0 0]), 7, 112) := by kernel_rfl

/-- What tandemlaw00.Copy does with one datum. -/
def CopyOK (h : Nat) : Prop := ∀ (d : Tr h) (c0 c1 c2 c3 c4 c5 c6 : Value) (w : World), DatC w h d [c0, c1, c2, c3, c4, c5, c6] → bk h d ≤ 10000000 →
  Calls Try.prog 42 #[.agg #[c0, c1, c2, c3, c4, c5, c6]] w fun e w' => ∃ d0 d1 d2 d3 d4 d5 d6, e = .returned (.agg #[d0, d1, d2, d3, d4, d5, d6]) ∧ DatQ (fun k => w.heap.size ≤ k) w' h d [d0, d1, d2, d3, d4, d5, d6] ∧ Up w w'

def CopyAllOK (h : Nat) : Prop := ∀ (I : List (Tr h)) (v : Value) (w : World), RowD w (DatC w h) v I → (I.map (bk h)).sum ≤ 10000000 →
  Calls Try.prog 20 #[v] w fun e w' => ∃ v', e = .returned v' ∧ RowD w' (DatQ (fun k => w.heap.size ≤ k) w' h) v' I ∧ VQ (fun k => w.heap.size ≤ k) v' I.length ∧ Up w w'

def seven (xs : List Value) (j : Nat) : List Value := (xs.drop (j * 7)).take 7

theorem seven_old {xs ys : List Value} {j k : Nat} (hl : xs.length = k * 7) (hj : j < k) : seven (xs ++ ys) j = seven xs j := by
  unfold seven
  rw [List.drop_append_of_le_length (by omega), List.take_append_of_le_length (by rw [List.length_drop]; omega)]

theorem seven_new {xs ys : List Value} {k : Nat} (hl : xs.length = k * 7) (hy : ys.length = 7) : seven (xs ++ ys) k = ys := by
  unfold seven
  rw [← hl, List.drop_left, List.take_of_length_le (by omega)]

/-- k data are copied. -/
structure CA (w : World) (h : Nat) (I : List (Tr h)) (k : Nat) (v : Value) (xs : List Value) (wr : World) : Prop where
  up : Up w wr
  own : wr.ownsRow w.heap.size 64 7 v k xs
  it : ∀ j (hj : j < I.length), j < k → DatQ (fun b => w.heap.size ≤ b ∧ v.ownBlock ≠ some b) wr h I[j] (seven xs j)

theorem CA.next {w : World} {h : Nat} {I : List (Tr h)} {k : Nat} {v : Value} {xs : List Value} {wr w2 w9 : World} {d0 d1 d2 d3 d4 d5 d6 : Value} {o : Obj} {g cap : Nat} (hA : CA w h I k v xs wr) (hk : k < I.length) (u2 : Up wr w2) (hd : DatQ (fun b => wr.heap.size ≤ b) w2 h I[k] [d0, d1, d2, d3, d4, d5, d6])
    (hown : w9.ownsRow w.heap.size 64 7 (.slice (some ⟨g, 0, none⟩) (k + 1) cap) (k + 1) (xs ++ [d0, d1, d2, d3, d4, d5, d6])) (hgrow : (w2.alloc o).grownBy w9 v.ownBlock) (hat : v.ownBlock = some g ∨ g = w2.heap.size + 1) :
    CA w h I (k + 1) (.slice (some ⟨g, 0, none⟩) (k + 1) cap) (xs ++ [d0, d1, d2, d3, d4, d5, d6]) w9 := by
  have hlen := hA.own.1
  have hs2 := u2.size
  have hs0 := hA.up.size
  have vlt : ∀ b, v.ownBlock = some b → w.heap.size ≤ b ∧ b < wr.heap.size := fun b hb => hA.own.lt b hb
  refine ⟨?_, hown, fun j hj hjk => ?_⟩
  · have : Up w (w2.alloc o) := (hA.up.tr u2).tr (up_alloc _ _)
    exact this.grown hgrow (by simp; omega) (fun b hb => (vlt b hb).1)
  · by_cases e : j = k
    · subst e
      rw [seven_new hlen rfl]
      refine DatQ.keep (w := w2) (fun b hb hq => ?_) (fun b hb hq => ⟨by omega, fun e => ?_⟩) hd
      · rw [hgrow.block b (by simp; omega) (fun e => by have := (vlt b e.symm).2; omega)]
        exact heap_alloc_old _ _ hb
      · have e' : g = b := by simpa [Value.ownBlock] using e
        rcases hat with h1 | h1
        · have := (vlt g h1).2; omega
        · omega
    · rw [seven_old hlen (by omega)]
      refine DatQ.keep (w := wr) (fun b hb hq => ?_) (fun b hb hq => ⟨hq.1, fun e => ?_⟩) (hA.it j hj (by omega))
      · rw [hgrow.block b (by simp; omega) (fun e => hq.2 e.symm), heap_alloc_old _ _ (by omega)]
        exact u2.block b hb
      · have e' : g = b := by simpa [Value.ownBlock] using e
        rcases hat with h1 | h1
        · exact hq.2 (by rw [h1, e'])
        · omega

theorem CA.fin {w : World} {h : Nat} {I : List (Tr h)} {v : Value} {xs : List Value} {wr : World} (hA : CA w h I I.length v xs wr) : RowD wr (DatQ (fun k => w.heap.size ≤ k) wr h) v I ∧ VQ (fun k => w.heap.size ≤ k) v I.length ∧ Up w wr := by
  have hlen := hA.own.1
  rcases hA.own.2 with ⟨rfl, h0⟩ | ⟨g, cap, cur, rfl, h1, h2, h3, h4, h5, h6⟩
  · exact ⟨⟨none, 0, by rw [h0], by omega, by decide, .inl h0⟩, .inl h0, hA.up⟩
  · refine ⟨⟨some ⟨g, 0, none⟩, cap, rfl, h3, by unfold maxLen at h4; omega, .inr ⟨g, 0, rfl, fun i hi => ⟨seven xs i, ?_, fun j hj => ?_, ?_⟩⟩⟩, .inr ⟨_, _, _, rfl, h1⟩, hA.up⟩
    · unfold seven
      rw [List.length_take, List.length_drop]
      omega
    · rw [cell_of_row wr g _ cur _ _ h2, ← Array.getElem?_toList, Nat.zero_add]
      unfold seven
      rw [List.getElem?_take, if_pos hj, List.getElem?_drop]
      have := congrArg (fun l : List Value => l[i * 7 + j]?) h6
      simp only [List.getElem?_take] at this
      rw [if_pos (by omega)] at this
      exact this
    · exact DatQ.keep (w := wr) (fun _ _ _ => rfl) (fun _ _ hq => hq.1) (hA.it i hi hi)

/-- Seven cells of one of a row that lay there. -/
theorem row_cells {w W : World} {h : Nat} {I : List (Tr h)} {ao : Option Addr} {n cap : Nat} (hr : RowD w (DatC w h) (.slice ao n cap) I) (u : Up w W) {i : Nat} (hi : i < I.length) :
    ∃ b off, ao = some ⟨b, off, none⟩ ∧ ∃ k m bb um t ui ur, DatC w h I[i] [.int .i64 k, .int .i64 m, .bool bb, um, .string t, ui, ur] ∧ (∃ ao l cap, um = .slice ao l cap) ∧ (∃ ao l cap, ui = .slice ao l cap) ∧ (∃ ao l cap, ur = .slice ao l cap) ∧
      W.cell? ⟨b, off + i * 7, none⟩ = some (.int .i64 k) ∧ W.cell? ⟨b, off + i * 7 + 1, none⟩ = some (.int .i64 m) ∧ W.cell? ⟨b, off + i * 7 + 2, none⟩ = some (.bool bb) ∧ W.cell? ⟨b, off + i * 7 + 3, none⟩ = some um ∧ W.cell? ⟨b, off + i * 7 + 4, none⟩ = some (.string t) ∧ W.cell? ⟨b, off + i * 7 + 5, none⟩ = some ui ∧ W.cell? ⟨b, off + i * 7 + 6, none⟩ = some ur := by
  obtain ⟨-, b, off, rfl, cs, k1, k2, k3⟩ := hr.get hi
  obtain ⟨k, m, bb, um, t, ui, ur, rfl, s1, s2, s3, e⟩ := dat_cells (off := off + i * 7) k1 k2 k3 u
  exact ⟨b, off, rfl, k, m, bb, um, t, ui, ur, k3, s1, s2, s3, e⟩

theorem hcells7 (w : World) (c0 c1 c2 c3 c4 c5 c6 : Value) (E : TypeId) : ∀ j u, [c0, c1, c2, c3, c4, c5, c6][j]? = some u → (w.alloc (.cells #[c0, c1, c2, c3, c4, c5, c6] E)).cell? ((⟨w.heap.size, 0, none⟩ : Addr).add j) = some u := by
  intro j u hj
  rw [Addr.add_lit, Nat.zero_add, cell_of_row _ _ j _ _ _ (heap_alloc_new w _)]
  simpa using hj

theorem DatC.ones {w : World} : {h : Nat} → {d : Tr h} → {cs : List Value} → DatC w h d cs → ∀ u ∈ cs, u.oneCell' = true
  | 0, _, _, hd => hd.elim
  | h + 1, (k, n, b, L, t, I, R), cs, hd => by
    obtain ⟨um, ui, ur, rfl, -, hM, -, hI, hR⟩ := hd
    obtain ⟨a1, c1, rfl, -⟩ := hM
    obtain ⟨a2, c2, rfl⟩ := hI.shape
    obtain ⟨a3, c3, rfl⟩ := hR.shape
    intro u hu
    simp at hu
    rcases hu with rfl | rfl | rfl | rfl | rfl | rfl | rfl <;> rfl

set_option maxHeartbeats 4000000 in
set_option maxRecDepth 100000 in
theorem copyAll_of {h : Nat} (hC : CopyOK h) : CopyAllOK h := by
  intro I v w hr hs
  obtain ⟨iD, hiD, hz0, hz1, hz2⟩ := info_parts infoD
  obtain ⟨ao, cap, rfl⟩ := hr.shape
  have hIl : I.length ≤ 10000000 := Nat.le_trans (sum_ge (m := bk h) (l := I) (fun a _ => bk_one h a)) hs
  have hmem : ∀ a ∈ I, bk h a ≤ 10000000 := fun a ha => by
    obtain ⟨l1, l2, e⟩ := List.append_of_mem ha
    rw [e] at hs
    simp at hs
    omega
  have HR := hide hr
  have HC := hide hC
  have HM := hide hmem
  have HI0 : Hid (CA w h I 0 (.slice none 0 0) [] w) := hide ⟨Up.refl w, World.ownsRow_nil _ _ _ _, fun j _ hj => by omega⟩
  clear hr hC hmem hs
  go_enter Try.func20, Try.ntmps20
  go_wp2
  go_loopw [3, 4] (fun a3 a4 wr => ∃ (k : Nat) (xs : List Value), k ≤ I.length ∧ a4 = .int .i64 (k : Int) ∧ CA w h I k a3 xs wr) (fun _ a4 _ => I.length - (intOf a4).toNat)
  case atStart => exact ⟨0, [], Nat.zero_le _, rfl, HI0.out⟩
  case round =>
    obtain ⟨k, xs, hk, rfl, hA⟩ := hrel
    obtain ⟨aoV, capV, rfl⟩ : ∃ ao cap, u3 = .slice ao k cap := by
      rcases hA.own.2 with ⟨e, e0⟩ | ⟨g, cap, cur, e, _⟩
      · exact ⟨none, 0, by rw [e, e0]⟩
      · exact ⟨_, _, e⟩
    by_cases hlt : k < I.length
    · obtain ⟨b, off, rfl, kk, km, kb, um, kt, ui, ur, hdat, ⟨x1, x2, x3, rfl⟩, ⟨y1, y2, y3, rfl⟩, ⟨z1, z2, z3, rfl⟩, e0, e1, e2, e3, e4, e5, e6⟩ := row_cells HR.out hA.up hlt
      have KC := HC.out I[k] _ _ _ _ _ _ _ wr (hdat.up hA.up) (HM.out _ (List.getElem_mem hlt))
      have HK := hide KC
      have HA := hide hA
      have hkI : (k : Int) < (I.length : Int) := by omega
      have hsz := hA.up.size
      clear KC hdat hA
      go_wp2_with (first
        | (go_at_call 42; refine HK.out.mono ?_; rintro e w2 ⟨d0, d1, d2, d3, d4, d5, d6, rfl, q2, u2⟩; have hon := q2.dat.ones; have hrw := ownsRow_blk HA.out.own (w' := w2) (fun g c hg => u2.old hg); have HQ2 := hide q2; have HU2 := hide u2; have HON := hide hon; have hs2 := u2.size; clear q2 u2 hon)
        | (at_builtin; refine wpList_append_lies _ rfl _ _ 45 rfl w.heap.size 64 iD (.agg #[.int .i64 0, .int .i64 0, .bool false, .slice none 0 0, .string ⟨#[]⟩, .slice none 0 0, .slice none 0 0]) 7 112 Try.underlying45 hiD hz0 hz1 hz2 rfl (by decide) _ k _ rfl (hrw.alloc _) ⟨w2.heap.size, 0, none⟩ 1 1 [d0, d1, d2, d3, d4, d5, d6] rfl rfl (hcells7 w2 _ _ _ _ _ _ _ _) HON.out (by decide) (by unfold maxLen; omega) (by omega) (by simp; omega) (w2.heap.size + 1) (by simp) ?_; intro g9 cap9 w9 hown9 hgrow9 hat9 _; have HA9 := hide (HA.out.next hlt HU2.out HQ2.out hown9 hgrow9 hat9); clear hown9 hgrow9 hat9))
      refine ⟨⟨k + 1, _, by omega, by go_num, HA9.out⟩, ?_⟩
      simp [intOf]
      omega
    · have hkK : k = I.length := by omega
      subst hkK
      have hkI : ¬ ((I.length : Int) < (I.length : Int)) := by omega
      have hF := hA.fin
      have HF := hide hF
      clear hF hA
      go_wp2
      go_ret
      exact ⟨_, rfl, HF.out⟩

set_option maxHeartbeats 400000 in
theorem copy_any (ao : Option Addr) (n cap : Nat) (f : Nat → Nat) (w : World) (h : Rd .u32 w ao n f) (ha : ao = none → cap = 0) (hn : 4 * n ≤ 140737488355328) :
    Calls Try.prog 58 #[.slice ao n cap] w fun e w' => ∃ v, e = .returned v ∧ Own .u32 65 w' w.heap.size v n f ∧ Below w.heap.size w w' := by
  obtain ⟨i, hi, hz0, hz1, hz2⟩ := info_parts infoU
  have hcs := cellsOf_length .u32 f n
  have hnil := World.ownsRow_nil w w.heap.size 65 1
  by_cases h0 : n = 0
  · subst h0
    cases ao with
    | none =>
      obtain rfl := ha rfl
      go_enter Try.func58, Try.ntmps58
      go_wp2_with (at_builtin; refine wpList_append_own_none rfl _ _ 60 rfl w.heap.size 65 i 1 Try.underlying60 hi _ _ _ rfl hnil rfl ?_)
      go_ret
      exact ⟨_, rfl, .inl ⟨rfl, rfl⟩, Below.refl _ _⟩
    | some ad =>
      go_enter Try.func58, Try.ntmps58
      go_wp2_with (at_builtin; refine wpList_append_own _ rfl _ _ 60 rfl w.heap.size 65 i (.int .u32 0) 1 4 Try.underlying60 hi hz0 hz1 hz2 rfl (by decide) _ _ _ rfl hnil ad 0 _ [] rfl rfl (fun j u hj => by simp at hj) (fun u hu => by simp at hu) (by unfold maxLen; omega) (by omega) (Nat.le_refl _) ?_; intro v' w1 hown hgrow hx; simp only [Nat.zero_add, List.nil_append] at hown)
      go_ret
      exact ⟨v', rfl, Own.of_row hown (fun j hj => by omega), Below.of_grown hgrow⟩
  · obtain ⟨b, off, rfl, hl, hc⟩ := h.cells (by omega)
    go_enter Try.func58, Try.ntmps58
    go_wp2_with (at_builtin; refine wpList_append_own _ rfl _ _ 60 rfl w.heap.size 65 i (.int .u32 0) 1 4 Try.underlying60 hi hz0 hz1 hz2 rfl (by decide) _ _ _ rfl hnil ⟨b, off, none⟩ n _ (cellsOf .u32 f n) rfl (by rw [hcs]; omega) hc (cellsOf_one _ _ _) (by unfold maxLen; omega) (by omega) (Nat.le_refl _) ?_; intro v' w1 hown hgrow hx; simp only [Nat.zero_add, List.nil_append] at hown)
    go_ret
    exact ⟨v', rfl, Own.of_row hown (fun j hj => cellsOf_get _ _ _ _ hj), Below.of_grown hgrow⟩

theorem Own.vq {k : IntKind} {E : TypeId} {w : World} {base : Nat} {v : Value} {n : Nat} {f : Nat → Nat} (h : Own k E w base v n f) : VQ (fun b => base ≤ b) v n := by
  rcases h with ⟨rfl, rfl⟩ | ⟨b, cap, rfl, h1, h2, h3⟩
  · exact .inl rfl
  · exact .inr ⟨_, _, _, rfl, h1⟩

/-- Blocks from B on stand. -/
def Kb (B : Nat) (a c : World) : Prop := a.heap.size ≤ c.heap.size ∧ ∀ k, k < a.heap.size → B ≤ k → c.heap[k]? = a.heap[k]?

theorem Kb.trans {B : Nat} {a b c : World} (h : Kb B a b) (k : Kb B b c) : Kb B a c := ⟨Nat.le_trans h.1 k.1, fun i hi hB => (k.2 i (Nat.lt_of_lt_of_le hi h.1) hB).trans (h.2 i hi hB)⟩

theorem Kb.of_up {B : Nat} {a b : World} (h : Up a b) : Kb B a b := ⟨h.size, fun i hi _ => h.block i hi⟩

theorem Kb.set {B g : Nat} (a : World) (hg : g < B) (i : Nat) (u : Value) : Kb B a (a.setCell ⟨g, i, none⟩ u) := ⟨by simp [World.setCell], fun k _ hB => heap_setCell_other _ _ _ _ (show k ≠ g from by omega)⟩

theorem up_set {w a : World} {g : Nat} (h : Up w a) (hg : w.heap.size ≤ g) (i : Nat) (u : Value) : Up w (a.setCell ⟨g, i, none⟩ u) := Below.setCell (p := ⟨g, i, none⟩) h hg _

theorem sto7 {w1 : World} {g B : Nat} {c0 c1 c2 c3 c4 c5 c6 : Value} {E : TypeId} (h : w1.heap[g]? = some (.cells #[c0, c1, c2, c3, c4, c5, c6] E (0, 0))) (hg : g < B) (v0 v1 v2 v3 v4 v5 v6 : Value) :
    ((((((((w1.setCell ⟨g, 0, none⟩ v0).setCell ⟨g, 1, none⟩ v1).setCell ⟨g, 2, none⟩ v2).setCell ⟨g, 3, none⟩ v3).setCell ⟨g, 4, none⟩ v4).setCell ⟨g, 5, none⟩ v5).setCell ⟨g, 6, none⟩ v6)).heap[g]? = some (.cells #[v0, v1, v2, v3, v4, v5, v6] E (0, 0)) ∧ Kb B w1 ((((((((w1.setCell ⟨g, 0, none⟩ v0).setCell ⟨g, 1, none⟩ v1).setCell ⟨g, 2, none⟩ v2).setCell ⟨g, 3, none⟩ v3).setCell ⟨g, 4, none⟩ v4).setCell ⟨g, 5, none⟩ v5).setCell ⟨g, 6, none⟩ v6)) ∧ ∀ w, Up w w1 → w.heap.size ≤ g → Up w ((((((((w1.setCell ⟨g, 0, none⟩ v0).setCell ⟨g, 1, none⟩ v1).setCell ⟨g, 2, none⟩ v2).setCell ⟨g, 3, none⟩ v3).setCell ⟨g, 4, none⟩ v4).setCell ⟨g, 5, none⟩ v5).setCell ⟨g, 6, none⟩ v6)) := by
  have s0 : (#[c0, c1, c2, c3, c4, c5, c6] : Array Value).setIfInBounds 0 v0 = #[v0, c1, c2, c3, c4, c5, c6] := rfl
  have s1 : (#[v0, c1, c2, c3, c4, c5, c6] : Array Value).setIfInBounds 1 v1 = #[v0, v1, c2, c3, c4, c5, c6] := rfl
  have s2 : (#[v0, v1, c2, c3, c4, c5, c6] : Array Value).setIfInBounds 2 v2 = #[v0, v1, v2, c3, c4, c5, c6] := rfl
  have s3 : (#[v0, v1, v2, c3, c4, c5, c6] : Array Value).setIfInBounds 3 v3 = #[v0, v1, v2, v3, c4, c5, c6] := rfl
  have s4 : (#[v0, v1, v2, v3, c4, c5, c6] : Array Value).setIfInBounds 4 v4 = #[v0, v1, v2, v3, v4, c5, c6] := rfl
  have s5 : (#[v0, v1, v2, v3, v4, c5, c6] : Array Value).setIfInBounds 5 v5 = #[v0, v1, v2, v3, v4, v5, c6] := rfl
  have s6 : (#[v0, v1, v2, v3, v4, v5, c6] : Array Value).setIfInBounds 6 v6 = #[v0, v1, v2, v3, v4, v5, v6] := rfl
  have h1 := heap_setCell_same w1 g 0 _ E v0 h
  rw [s0] at h1
  have k1 := Kb.set (B := B) w1 hg 0 v0
  have u1 : ∀ w, Up w w1 → w.heap.size ≤ g → Up w (w1.setCell ⟨g, 0, none⟩ v0) := fun w hu hw => up_set (hu) hw 0 v0
  generalize w1.setCell ⟨g, 0, none⟩ v0 = wa at *
  have h2 := heap_setCell_same wa g 1 _ E v1 h1
  rw [s1] at h2
  have k2 := Kb.set (B := B) wa hg 1 v1
  have u2 : ∀ w, Up w w1 → w.heap.size ≤ g → Up w (wa.setCell ⟨g, 1, none⟩ v1) := fun w hu hw => up_set (u1 w hu hw) hw 1 v1
  generalize wa.setCell ⟨g, 1, none⟩ v1 = wb at *
  have h3 := heap_setCell_same wb g 2 _ E v2 h2
  rw [s2] at h3
  have k3 := Kb.set (B := B) wb hg 2 v2
  have u3 : ∀ w, Up w w1 → w.heap.size ≤ g → Up w (wb.setCell ⟨g, 2, none⟩ v2) := fun w hu hw => up_set (u2 w hu hw) hw 2 v2
  generalize wb.setCell ⟨g, 2, none⟩ v2 = wc at *
  have h4 := heap_setCell_same wc g 3 _ E v3 h3
  rw [s3] at h4
  have k4 := Kb.set (B := B) wc hg 3 v3
  have u4 : ∀ w, Up w w1 → w.heap.size ≤ g → Up w (wc.setCell ⟨g, 3, none⟩ v3) := fun w hu hw => up_set (u3 w hu hw) hw 3 v3
  generalize wc.setCell ⟨g, 3, none⟩ v3 = wd at *
  have h5 := heap_setCell_same wd g 4 _ E v4 h4
  rw [s4] at h5
  have k5 := Kb.set (B := B) wd hg 4 v4
  have u5 : ∀ w, Up w w1 → w.heap.size ≤ g → Up w (wd.setCell ⟨g, 4, none⟩ v4) := fun w hu hw => up_set (u4 w hu hw) hw 4 v4
  generalize wd.setCell ⟨g, 4, none⟩ v4 = we at *
  have h6 := heap_setCell_same we g 5 _ E v5 h5
  rw [s5] at h6
  have k6 := Kb.set (B := B) we hg 5 v5
  have u6 : ∀ w, Up w w1 → w.heap.size ≤ g → Up w (we.setCell ⟨g, 5, none⟩ v5) := fun w hu hw => up_set (u5 w hu hw) hw 5 v5
  generalize we.setCell ⟨g, 5, none⟩ v5 = wf at *
  have h7 := heap_setCell_same wf g 6 _ E v6 h6
  rw [s6] at h7
  have k7 := Kb.set (B := B) wf hg 6 v6
  have u7 : ∀ w, Up w w1 → w.heap.size ≤ g → Up w (wf.setCell ⟨g, 6, none⟩ v6) := fun w hu hw => up_set (u6 w hu hw) hw 6 v6
  exact ⟨h7, (((((k1.trans k2).trans k3).trans k4).trans k5).trans k6).trans k7, u7⟩

set_option maxHeartbeats 4000000 in
set_option maxRecDepth 100000 in
theorem copy_of {h : Nat} (hC : CopyAllOK h) : CopyOK (h + 1) := by
  rintro ⟨k, n, b, L, t, I, R⟩ c0 c1 c2 c3 c4 c5 c6 w hd hb
  obtain ⟨um, ui, ur, e, hn, hM, hL, hI, hR⟩ := hd
  simp at e
  obtain ⟨rfl, rfl, rfl, rfl, rfl, rfl, rfl⟩ := e
  obtain ⟨aom, capm, rfl, hm1, hm2, hm0, hmr⟩ := id hM
  obtain ⟨aoi, capi, rfl⟩ := hI.shape
  obtain ⟨aor, capr, rfl⟩ := hR.shape
  have hbk : L.length ≤ 10000000 ∧ (I.map (bk h)).sum ≤ 10000000 ∧ (R.map (bk h)).sum ≤ 10000000 := by
    simp only [bk] at hb
    omega
  obtain ⟨W, hW⟩ : ∃ W, W = (w.alloc (.cells #[.int .i64 k, .int .i64 n, .bool b, .slice aom L.length capm, .string t, .slice aoi I.length capi, .slice aor R.length capr] 64)).alloc (.cells #[.int .i64 0, .int .i64 0, .bool false, .slice none 0 0, .string ⟨#[]⟩, .slice none 0 0, .slice none 0 0] 64) := ⟨_, rfl⟩
  have u0 : Up w W := by rw [hW]; exact (up_alloc w _).tr (up_alloc _ _)
  have zW : W.heap.size = w.heap.size + 2 := by rw [hW, World.size_alloc, World.size_alloc]
  have b0 : W.heap[w.heap.size]? = some (.cells #[.int .i64 k, .int .i64 n, .bool b, .slice aom L.length capm, .string t, .slice aoi I.length capi, .slice aor R.length capr] 64 (0, 0)) := by
    rw [hW]
    exact (heap_alloc_old _ _ (r := w.heap.size) (by simp)).trans (heap_alloc_new w _)
  have bZ : W.heap[w.heap.size + 1]? = some (.cells #[.int .i64 0, .int .i64 0, .bool false, .slice none 0 0, .string ⟨#[]⟩, .slice none 0 0, .slice none 0 0] 64 (0, 0)) := by
    rw [hW]
    have := heap_alloc_new (w.alloc (.cells #[.int .i64 k, .int .i64 n, .bool b, .slice aom L.length capm, .string t, .slice aoi I.length capi, .slice aor R.length capr] 64)) (.cells #[.int .i64 0, .int .i64 0, .bool false, .slice none 0 0, .string ⟨#[]⟩, .slice none 0 0, .slice none 0 0] 64)
    rw [World.size_alloc] at this
    exact this
  have KM := copy_any aom L.length capm (fun i => L.getD i 0) W (hmr.below u0 (Nat.le_refl _)) hm0 (by omega)
  have KI := fun (W1 : World) (u : Up w W1) => hC I (.slice aoi I.length capi) W1 (hI.upD u) hbk.2.1
  have KR := fun (W1 : World) (u : Up w W1) => hC R (.slice aor R.length capr) W1 (hR.upD u) hbk.2.2
  obtain ⟨n0, n1, n2, n3, n4, n5, n6⟩ := cells7 b0
  have HM := hide KM
  have HI := hide KI
  have HR := hide KR
  have HW := hide hW
  have HZ := hide zW
  have HU0 := hide u0
  have HB0 := hide b0
  have HBZ := hide bZ
  have HN := hide (And.intro hn hL)
  clear KM KI KR b0 bZ u0 zW hW hM hI hR hmr hm0 hm1 hm2 hbk hb hC hn hL
  go_enter Try.func42, Try.ntmps42
  go_wp2_with fail
  rw [← HW.out]
  go_wp2_with (go_at_call 58; refine HM.out.mono ?_; rintro e w2 ⟨v2, rfl, o2, h2⟩; have o2' := o2; obtain ⟨ao2, cap2, rfl⟩ : ∃ ao cap, v2 = .slice ao L.length cap := (by obtain ⟨ao, cap, e, _⟩ := o2'.sl; exact ⟨ao, cap, e⟩); clear o2'; have b2 := Up.old h2 HB0.out; have z2 := Up.old h2 HBZ.out; obtain ⟨m0, m1, m2, m3, m4, m5, m6⟩ := cells7 b2; have f3 := frozen_of_row _ _ 3 _ _ b2; have HB2 := hide b2; have HZ2 := hide z2; have HO2 := hide o2; have HH2 := hide h2; clear b2 z2 o2 h2 n0 n1 n2 n3 n4 n5 n6)
  have h2u : Up w w2 := HU0.out.tr HH2.out
  have zz := HZ.out
  have U3 : Up w (w2.setCell ⟨w.heap.size, 3, none⟩ (.slice ao2 L.length cap2)) := up_set h2u (Nat.le_refl _) 3 _
  have b3 := heap_setCell_same w2 w.heap.size 3 _ _ (.slice ao2 L.length cap2) HB2.out
  have z3 : (w2.setCell ⟨w.heap.size, 3, none⟩ (.slice ao2 L.length cap2)).heap[w.heap.size + 1]? = _ := (heap_setCell_other _ _ _ _ (show w.heap.size + 1 ≠ w.heap.size from by omega)).trans HZ2.out
  have k3 := Kb.set (B := w.heap.size + 2) w2 (g := w.heap.size) (by omega) 3 (.slice ao2 L.length cap2)
  have l3 : w.heap.size + 2 ≤ (w2.setCell ⟨w.heap.size, 3, none⟩ (.slice ao2 L.length cap2)).heap.size := Nat.le_trans (by rw [← zz]; exact HH2.out.size) k3.1
  clear m0 m1 m2 m3 m4 m5 m6 f3
  generalize w2.setCell ⟨w.heap.size, 3, none⟩ (.slice ao2 L.length cap2) = W3 at *
  refine (HI.out W3 U3).mono ?_
  rintro e w4 ⟨vi, rfl, r4, q4, u4⟩
  obtain ⟨ao4, cap4, rfl⟩ := r4.shape
  have b4 := Up.old u4 b3
  have z4 := Up.old u4 z3
  obtain ⟨m0, m1, m2, m3, m4, m5, m6⟩ := cells7 b4
  have f5 := frozen_of_row _ _ 5 _ _ b4
  have H3 := hide (And.intro U3 (And.intro k3 l3))
  have H4 := hide (And.intro r4 (And.intro q4 u4))
  have HB4 := hide (And.intro b4 z4)
  clear b3 z3 k3 l3 U3 h2u r4 q4 u4 b4 z4 zz
  go_wp2_with fail
  have U5 : Up w (w4.setCell ⟨w.heap.size, 5, none⟩ (.slice ao4 I.length cap4)) := up_set (H3.out.1.tr H4.out.2.2) (Nat.le_refl _) 5 _
  have b5 := heap_setCell_same w4 w.heap.size 5 _ _ (.slice ao4 I.length cap4) HB4.out.1
  have z5 : (w4.setCell ⟨w.heap.size, 5, none⟩ (.slice ao4 I.length cap4)).heap[w.heap.size + 1]? = _ := (heap_setCell_other _ _ _ _ (show w.heap.size + 1 ≠ w.heap.size from by omega)).trans HB4.out.2
  have k5 := Kb.set (B := w.heap.size + 2) w4 (g := w.heap.size) (by omega) 5 (.slice ao4 I.length cap4)
  have l5 : w.heap.size + 2 ≤ (w4.setCell ⟨w.heap.size, 5, none⟩ (.slice ao4 I.length cap4)).heap.size := Nat.le_trans (Nat.le_trans H3.out.2.2 H4.out.2.2.size) k5.1
  clear m0 m1 m2 m3 m4 m5 m6 f5
  generalize w4.setCell ⟨w.heap.size, 5, none⟩ (.slice ao4 I.length cap4) = W5 at *
  refine (HR.out W5 U5).mono ?_
  rintro e w6 ⟨vr, rfl, t6, p6, u6⟩
  obtain ⟨ao6, cap6, rfl⟩ := t6.shape
  have b6 := Up.old u6 b5
  have z6 := Up.old u6 z5
  have b7 := heap_setCell_same w6 w.heap.size 6 _ _ (.slice ao6 R.length cap6) b6
  have z7 : (w6.setCell ⟨w.heap.size, 6, none⟩ (.slice ao6 R.length cap6)).heap[w.heap.size + 1]? = _ := (heap_setCell_other _ _ _ _ (show w.heap.size + 1 ≠ w.heap.size from by omega)).trans z6
  have U7 : Up w (w6.setCell ⟨w.heap.size, 6, none⟩ (.slice ao6 R.length cap6)) := up_set (U5.tr u6) (Nat.le_refl _) 6 _
  have k7 := Kb.set (B := w.heap.size + 2) w6 (g := w.heap.size) (by omega) 6 (.slice ao6 R.length cap6)
  obtain ⟨m0, m1, m2, m3, m4, m5, m6⟩ := cells7 b6
  have f6 := frozen_of_row _ _ 6 _ _ b6
  obtain ⟨q0, q1, q2, q3, q4, q5, q6⟩ := cells7 z7
  have r0 := frozen_of_row _ _ 0 _ _ z7
  have r1 := frozen_of_row _ _ 1 _ _ z7
  have r2 := frozen_of_row _ _ 2 _ _ z7
  have r3 := frozen_of_row _ _ 3 _ _ z7
  have r4 := frozen_of_row _ _ 4 _ _ z7
  have r5 := frozen_of_row _ _ 5 _ _ z7
  have r6' := frozen_of_row _ _ 6 _ _ z7
  have H5 := hide (And.intro U5 (And.intro k5 l5))
  have H6 := hide (And.intro t6 (And.intro p6 u6))
  have H7 := hide (And.intro U7 k7)
  have HB7 := hide (And.intro b7 z7)
  clear b5 z5 k5 l5 U5 t6 p6 u6 b6 z6 b7 z7 U7 k7
  go_wp2_with fail
  clear m0 m1 m2 m3 m4 m5 m6 f6 q0 q1 q2 q3 q4 q5 q6 r0 r1 r2 r3 r4 r5 r6'
  generalize w6.setCell ⟨w.heap.size, 6, none⟩ (.slice ao6 R.length cap6) = W7 at *
  obtain ⟨bf, kf, uf⟩ := sto7 (B := w.heap.size + 2) HB7.out.2 (by omega) (.int .i64 k) (.int .i64 n) (.bool b) (.slice ao2 L.length cap2) (.string t) (.slice ao4 I.length cap4) (.slice ao6 R.length cap6)
  have uF := uf w H7.out.1 (by omega)
  generalize (((((((W7.setCell ⟨(w.heap.size + 1), 0, none⟩ (.int .i64 k)).setCell ⟨(w.heap.size + 1), 1, none⟩ (.int .i64 n)).setCell ⟨(w.heap.size + 1), 2, none⟩ (.bool b)).setCell ⟨(w.heap.size + 1), 3, none⟩ (.slice ao2 L.length cap2)).setCell ⟨(w.heap.size + 1), 4, none⟩ (.string t)).setCell ⟨(w.heap.size + 1), 5, none⟩ (.slice ao4 I.length cap4)).setCell ⟨(w.heap.size + 1), 6, none⟩ (.slice ao6 R.length cap6)) = wf at *
  obtain ⟨d0, d1, d2, d3, d4, d5, d6⟩ := cells7 bf
  have zz := HZ.out
  have K7 := H7.out.2.trans kf
  have K5 := (H5.out.2.1.trans (Kb.of_up H6.out.2.2)).trans K7
  have K3 := (H3.out.2.1.trans (Kb.of_up H4.out.2.2)).trans K5
  have l3 := H3.out.2.2
  have l5 := H5.out.2.2
  refine bodyPost_ret (by simp [results, Try.results42, go_sem, d0, d1, d2, d3, d4, d5, d6]; rfl) rfl ?_
  refine ⟨_, _, _, _, _, _, _, rfl, ⟨.slice ao2 L.length cap2, .slice ao4 I.length cap4, .slice ao6 R.length cap6, rfl, HN.out.1, ?_, HN.out.2, ?_, ?_, ?_, ?_, ?_⟩, uF⟩
  · exact (HO2.out.sl).blk (Q := fun x => w.heap.size + 2 ≤ x) (HO2.out.vq.mono (fun x hx => by omega)) (fun x hx hq => K3.2 x hx hq)
  · exact H4.out.1.blk (Q := fun x => w.heap.size + 2 ≤ x) (H4.out.2.1.mono (fun x hx => by omega)) (fun x hx hq => K5.2 x hx hq) (fun a cs hd => DatQ.keep (fun x hx hq => K5.2 x hx (by omega)) (fun x _ hq => by omega) hd)
  · exact H6.out.1.blk (Q := fun x => w.heap.size + 2 ≤ x) (H6.out.2.1.mono (fun x hx => by omega)) (fun x hx hq => K7.2 x hx hq) (fun a cs hd => DatQ.keep (fun x hx hq => K7.2 x hx (by omega)) (fun x _ hq => by omega) hd)
  · exact HO2.out.vq.mono (fun x hx => by omega)
  · exact H4.out.2.1.mono (fun x hx => by omega)
  · exact H6.out.2.1.mono (fun x hx => by omega)

theorem copy_all : (h : Nat) → CopyOK h
  | 0 => fun d => Empty.elim d
  | h + 1 => copy_of (copyAll_of (copy_all h))

theorem copyAll_all (h : Nat) : CopyAllOK h := copyAll_of (copy_all h)

end Go.Proofs.Ytilcigjhogcjkaa
