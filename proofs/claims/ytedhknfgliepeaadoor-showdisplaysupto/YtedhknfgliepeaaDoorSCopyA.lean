/-
  What is proved here: tandemlaw00.CopyAll: a row of data in new memory, given tandemlaw00.Copy of one.
-/
import Derived.Test.YtedhknfgliepeaaDoorSCopyM
namespace Go.Proofs.YtedhknfgliepeaaDoor
open Go Go.RowKit

theorem infoD : (Tryd.prog.info? 27).map (fun i => (i.zero, i.size, i.bytes)) = some (some (.agg #[.int .i64 0, .int .i64 0, .bool false, .slice none 0 0, .string ⟨#[]⟩, .slice none 0 0, .slice none 0 0]), 7, 112) := by kernel_rfl

/-- What tandemlaw00.Copy does with one datum. -/
def CopyOK (h : Nat) : Prop := ∀ (d : Tr h) (c0 c1 c2 c3 c4 c5 c6 : Value) (w : World), DatC w h d [c0, c1, c2, c3, c4, c5, c6] → bk h d ≤ 10000000 →
  Calls Tryd.prog 7 #[.agg #[c0, c1, c2, c3, c4, c5, c6]] w fun e w' => ∃ d0 d1 d2 d3 d4 d5 d6, e = .returned (.agg #[d0, d1, d2, d3, d4, d5, d6]) ∧ DatQ (fun k => w.heap.size ≤ k) w' h d [d0, d1, d2, d3, d4, d5, d6] ∧ Up w w'
def CopyAllOK (h : Nat) : Prop := ∀ (I : List (Tr h)) (v : Value) (w : World), RowD w (DatC w h) v I → (I.map (bk h)).sum ≤ 10000000 →
  Calls Tryd.prog 12 #[v] w fun e w' => ∃ v', e = .returned v' ∧ RowD w' (DatQ (fun k => w.heap.size ≤ k) w' h) v' I ∧ VQ (fun k => w.heap.size ≤ k) v' I.length ∧ Up w w'

def seven (xs : List Value) (j : Nat) : List Value := (xs.drop (j * 7)).take 7
theorem seven_old {xs ys : List Value} {j k : Nat} (hl : xs.length = k * 7) (hj : j < k) : seven (xs ++ ys) j = seven xs j := by
  unfold seven
  rw [List.drop_append_of_le_length (by omega), List.take_append_of_le_length (by rw [List.length_drop]; omega)]
theorem seven_new {xs ys : List Value} {k : Nat} (hl : xs.length = k * 7) (hy : ys.length = 7) : seven (xs ++ ys) k = ys := by
  unfold seven
  rw [← hl, List.drop_left, List.take_of_length_le (by omega)]

/-- k data are copied. -/
structure CA (w : World) (h : Nat) (I : List (Tr h)) (k : Nat) (v : Value) (xs : List Value) (wr : World) : Prop where
  up : Up w wr
  own : wr.ownsRow w.heap.size 27 7 v k xs
  it : ∀ j (hj : j < I.length), j < k → DatQ (fun b => w.heap.size ≤ b ∧ v.ownBlock ≠ some b) wr h I[j] (seven xs j)

theorem CA.next {w : World} {h : Nat} {I : List (Tr h)} {k : Nat} {v : Value} {xs : List Value} {wr w2 w9 : World} {d0 d1 d2 d3 d4 d5 d6 : Value} {o : Obj} {g cap : Nat} (hA : CA w h I k v xs wr) (hk : k < I.length) (u2 : Up wr w2) (hd : DatQ (fun b => wr.heap.size ≤ b) w2 h I[k] [d0, d1, d2, d3, d4, d5, d6])
    (hown : w9.ownsRow w.heap.size 27 7 (.slice (some ⟨g, 0, none⟩) (k + 1) cap) (k + 1) (xs ++ [d0, d1, d2, d3, d4, d5, d6])) (hgrow : (w2.alloc o).grownBy w9 v.ownBlock) (hat : v.ownBlock = some g ∨ g = w2.heap.size + 1) :
    CA w h I (k + 1) (.slice (some ⟨g, 0, none⟩) (k + 1) cap) (xs ++ [d0, d1, d2, d3, d4, d5, d6]) w9 := by
  have hlen := hA.own.1
  have hs2 := u2.size
  have hs0 := hA.up.size
  have vlt : ∀ b, v.ownBlock = some b → w.heap.size ≤ b ∧ b < wr.heap.size := fun b hb => hA.own.lt b hb
  refine ⟨?_, hown, fun j hj hjk => ?_⟩
  · have : Up w (w2.alloc o) := (hA.up.tr u2).tr (up_alloc _ _)
    exact this.grown hgrow (by simp; omega) (fun b hb => (vlt b hb).1)
  · by_cases e : j = k
    · subst e
      rw [seven_new hlen rfl]
      refine DatQ.keep (w := w2) (fun b hb hq => ?_) (fun b hb hq => ⟨by omega, fun e => ?_⟩) hd
      · rw [hgrow.block b (by simp; omega) (fun e => by have := (vlt b e.symm).2; omega)]
        exact heap_alloc_old _ _ hb
      · have e' : g = b := by simpa [Value.ownBlock] using e
        rcases hat with h1 | h1
        · have := (vlt g h1).2; omega
        · omega
    · rw [seven_old hlen (by omega)]
      refine DatQ.keep (w := wr) (fun b hb hq => ?_) (fun b hb hq => ⟨hq.1, fun e => ?_⟩) (hA.it j hj (by omega))
      · rw [hgrow.block b (by simp; omega) (fun e => hq.2 e.symm), heap_alloc_old _ _ (by omega)]
        exact u2.block b hb
      · have e' : g = b := by simpa [Value.ownBlock] using e
        rcases hat with h1 | h1
        · exact hq.2 (by rw [h1, e'])
        · omega

theorem CA.fin {w : World} {h : Nat} {I : List (Tr h)} {v : Value} {xs : List Value} {wr : World} (hA : CA w h I I.length v xs wr) : RowD wr (DatQ (fun k => w.heap.size ≤ k) wr h) v I ∧ VQ (fun k => w.heap.size ≤ k) v I.length ∧ Up w wr := by
  have hlen := hA.own.1
  rcases hA.own.2 with ⟨rfl, h0⟩ | ⟨g, cap, cur, rfl, h1, h2, h3, h4, h5, h6⟩
  · exact ⟨⟨none, 0, by rw [h0], by omega, by decide, .inl h0⟩, .inl h0, hA.up⟩
  · refine ⟨⟨some ⟨g, 0, none⟩, cap, rfl, h3, by unfold maxLen at h4; omega, .inr ⟨g, 0, rfl, fun i hi => ⟨seven xs i, ?_, fun j hj => ?_, ?_⟩⟩⟩, .inr ⟨_, _, _, rfl, h1⟩, hA.up⟩
    · unfold seven
      rw [List.length_take, List.length_drop]
      omega
    · rw [cell_of_row wr g _ cur _ _ h2, ← Array.getElem?_toList, Nat.zero_add]
      unfold seven
      rw [List.getElem?_take, if_pos hj, List.getElem?_drop]
      have := congrArg (fun l : List Value => l[i * 7 + j]?) h6
      simp only [List.getElem?_take] at this
      rw [if_pos (by omega)] at this
      exact this
    · exact DatQ.keep (w := wr) (fun _ _ _ => rfl) (fun _ _ hq => hq.1) (hA.it i hi hi)

/-- Seven cells of one of a row that lay there. -/
theorem row_cells {w W : World} {h : Nat} {I : List (Tr h)} {ao : Option Addr} {n cap : Nat} (hr : RowD w (DatC w h) (.slice ao n cap) I) (u : Up w W) {i : Nat} (hi : i < I.length) :
    ∃ b off, ao = some ⟨b, off, none⟩ ∧ ∃ k m bb um t ui ur, DatC w h I[i] [.int .i64 k, .int .i64 m, .bool bb, um, .string t, ui, ur] ∧ (∃ ao l cap, um = .slice ao l cap) ∧ (∃ ao l cap, ui = .slice ao l cap) ∧ (∃ ao l cap, ur = .slice ao l cap) ∧
      W.cell? ⟨b, off + i * 7, none⟩ = some (.int .i64 k) ∧ W.cell? ⟨b, off + i * 7 + 1, none⟩ = some (.int .i64 m) ∧ W.cell? ⟨b, off + i * 7 + 2, none⟩ = some (.bool bb) ∧ W.cell? ⟨b, off + i * 7 + 3, none⟩ = some um ∧ W.cell? ⟨b, off + i * 7 + 4, none⟩ = some (.string t) ∧ W.cell? ⟨b, off + i * 7 + 5, none⟩ = some ui ∧ W.cell? ⟨b, off + i * 7 + 6, none⟩ = some ur := by
  obtain ⟨-, b, off, rfl, cs, k1, k2, k3⟩ := hr.get hi
  obtain ⟨k, m, bb, um, t, ui, ur, rfl, s1, s2, s3, e⟩ := dat_cells (off := off + i * 7) k1 k2 k3 u
  exact ⟨b, off, rfl, k, m, bb, um, t, ui, ur, k3, s1, s2, s3, e⟩

theorem hcells7 (w : World) (c0 c1 c2 c3 c4 c5 c6 : Value) (E : TypeId) : ∀ j u, [c0, c1, c2, c3, c4, c5, c6][j]? = some u → (w.alloc (.cells #[c0, c1, c2, c3, c4, c5, c6] E)).cell? ((⟨w.heap.size, 0, none⟩ : Addr).add j) = some u := by
  intro j u hj
  rw [Addr.add_lit, Nat.zero_add, cell_of_row _ _ j _ _ _ (heap_alloc_new w _)]
  simpa using hj
theorem DatC.ones {w : World} : {h : Nat} → {d : Tr h} → {cs : List Value} → DatC w h d cs → ∀ u ∈ cs, u.oneCell' = true
  | 0, _, _, hd => hd.elim
  | h + 1, (k, n, b, L, t, I, R), cs, hd => by
    obtain ⟨um, ui, ur, rfl, -, hM, -, hI, hR⟩ := hd
    obtain ⟨a1, c1, rfl, -⟩ := hM
    obtain ⟨a2, c2, rfl⟩ := hI.shape
    obtain ⟨a3, c3, rfl⟩ := hR.shape
    intro u hu
    simp at hu
    rcases hu with rfl | rfl | rfl | rfl | rfl | rfl | rfl <;> rfl

set_option maxHeartbeats 4000000 in
set_option maxRecDepth 100000 in
theorem copyAll_of {h : Nat} (hC : CopyOK h) : CopyAllOK h := by
  intro I v w hr hs
  obtain ⟨iD, hiD, hz0, hz1, hz2⟩ := info_parts infoD
  obtain ⟨ao, cap, rfl⟩ := hr.shape
  have hIl : I.length ≤ 10000000 := Nat.le_trans (sum_ge (m := bk h) (l := I) (fun a _ => bk_one h a)) hs
  have hmem : ∀ a ∈ I, bk h a ≤ 10000000 := fun a ha => by
    obtain ⟨l1, l2, e⟩ := List.append_of_mem ha
    rw [e] at hs
    simp at hs
    omega
  have HR := hide hr
  have HC := hide hC
  have HM := hide hmem
  have HI0 : Hid (CA w h I 0 (.slice none 0 0) [] w) := hide ⟨Up.refl w, World.ownsRow_nil _ _ _ _, fun j _ hj => by omega⟩
  clear hr hC hmem hs
  go_enter Tryd.func12, Tryd.ntmps12
  go_wp2
  go_loopw [3, 4] (fun a3 a4 wr => ∃ (k : Nat) (xs : List Value), k ≤ I.length ∧ a4 = .int .i64 (k : Int) ∧ CA w h I k a3 xs wr) (fun _ a4 _ => I.length - (intOf a4).toNat)
  case atStart => exact ⟨0, [], Nat.zero_le _, rfl, HI0.out⟩
  case round =>
    obtain ⟨k, xs, hk, rfl, hA⟩ := hrel
    obtain ⟨aoV, capV, rfl⟩ : ∃ ao cap, u3 = .slice ao k cap := by
      rcases hA.own.2 with ⟨e, e0⟩ | ⟨g, cap, cur, e, _⟩
      · exact ⟨none, 0, by rw [e, e0]⟩
      · exact ⟨_, _, e⟩
    by_cases hlt : k < I.length
    · obtain ⟨b, off, rfl, kk, km, kb, um, kt, ui, ur, hdat, ⟨x1, x2, x3, rfl⟩, ⟨y1, y2, y3, rfl⟩, ⟨z1, z2, z3, rfl⟩, e0, e1, e2, e3, e4, e5, e6⟩ := row_cells HR.out hA.up hlt
      have KC := HC.out I[k] _ _ _ _ _ _ _ wr (hdat.up hA.up) (HM.out _ (List.getElem_mem hlt))
      have HK := hide KC
      have HA := hide hA
      have hkI : (k : Int) < (I.length : Int) := by omega
      have hsz := hA.up.size
      clear KC hdat hA
      go_wp2_with (first
        | (go_at_call 7; refine HK.out.mono ?_; rintro e w2 ⟨d0, d1, d2, d3, d4, d5, d6, rfl, q2, u2⟩; have hon := q2.dat.ones; have hrw := ownsRow_blk HA.out.own (w' := w2) (fun g c hg => u2.old hg); have HQ2 := hide q2; have HU2 := hide u2; have HON := hide hon; have hs2 := u2.size; clear q2 u2 hon)
        | (at_builtin; refine wpList_append_lies _ rfl _ _ 25 rfl w.heap.size 27 iD (.agg #[.int .i64 0, .int .i64 0, .bool false, .slice none 0 0, .string ⟨#[]⟩, .slice none 0 0, .slice none 0 0]) 7 112 Tryd.underlying25 hiD hz0 hz1 hz2 rfl (by decide) _ k _ rfl (hrw.alloc _) ⟨w2.heap.size, 0, none⟩ 1 1 [d0, d1, d2, d3, d4, d5, d6] rfl rfl (hcells7 w2 _ _ _ _ _ _ _ _) HON.out (by decide) (by unfold maxLen; omega) (by omega) (by simp; omega) (w2.heap.size + 1) (by simp) ?_; intro g9 cap9 w9 hown9 hgrow9 hat9 _; have HA9 := hide (HA.out.next hlt HU2.out HQ2.out hown9 hgrow9 hat9); clear hown9 hgrow9 hat9))
      refine ⟨⟨k + 1, _, by omega, by go_num, HA9.out⟩, ?_⟩
      simp [intOf]
      omega
    · have hkK : k = I.length := by omega
      subst hkK
      have hkI : ¬ ((I.length : Int) < (I.length : Int)) := by omega
      have hF := hA.fin
      have HF := hide hF
      clear hF hA
      go_wp2
      go_ret
      exact ⟨_, rfl, HF.out⟩

end Go.Proofs.YtedhknfgliepeaaDoor
