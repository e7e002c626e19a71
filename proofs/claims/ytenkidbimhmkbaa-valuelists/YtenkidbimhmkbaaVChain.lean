/-
  What is proved here: package value's chain: a pair for each item, the last one first.
-/
import Derived.Test.YtenkidbimhmkbaaVChainM
import Derived.Deep.CutRange
import Derived.RangeFuncFrom
namespace Go.Proofs.Ytenkidbimhmkbaa
open Go Go.RowKit Go.Shelf

attribute [local go_sem] Oper.semAt_some

/-- What the loop of chain keeps. -/
structure ChI (w4 : World) (B hb : Nat) (X Xk : Nat → Prop) (sz : Nat) (tm : Int) (n2 : Nat) (f2 : Nat → Nat) (st2 : Nat → Bool) (ev : Nat) (W : World) : Prop where
  H : HeapAt W hb Xk sz tm n2 f2 st2
  G : Grows w4.heap.size X Xk
  F : Fr (fun k => X k ∨ k = B + 1) w4 W
  be : W.heap[B + 1]? = some (.cells #[.int .u64 (ev : Int)] 22 (0, 0))
theorem ChI.grown {w4 : World} {B hb : Nat} {X Xk : Nat → Prop} {sz : Nat} {tm : Int} {n2 : Nat} {f2 : Nat → Nat} {st2 : Nat → Bool} {ev : Nat} {W W' : World} (h : ChI w4 B hb X Xk sz tm n2 f2 st2 ev W) (hB : B + 1 < w4.heap.size) {row : Option Nat} (hg : W.grownBy W' row) (hr : ∀ r, row = some r → w4.heap.size ≤ r ∧ ∃ o : Obj, W.heap[r]? = some o ∧ o.isCells = false) : ChI w4 B hb X Xk sz tm n2 f2 st2 ev W' :=
  ⟨h.H.grown hg (fun r e => (hr r e).2), h.G, h.F.grow hg (fun k hk e => by have := (hr k e).1; omega), (hg.block _ (Nat.lt_of_lt_of_le hB h.F.size) (fun e => by have := (hr _ e.symm).1; omega)).trans h.be⟩
theorem ChI.not {w4 : World} {B hb : Nat} {X Xk : Nat → Prop} {sz : Nat} {tm : Int} {n2 : Nat} {f2 : Nat → Nat} {st2 : Nat → Bool} {ev : Nat} {W : World} (h : ChI w4 B hb X Xk sz tm n2 f2 st2 ev W) {k : Nat} (hk : k < w4.heap.size) (hx : ¬ X k) : ¬ Xk k := fun e => by
  rcases h.G k e with e | e
  · exact hx e
  · omega
theorem ChI.step {w4 : World} {B hb : Nat} {X Xk X5 : Nat → Prop} {sz : Nat} {tm : Int} {n2 n5 : Nat} {f2 f5 : Nat → Nat} {st2 st5 : Nat → Bool} {ev : Nat} {W w5 : World} (h : ChI w4 B hb X Xk sz tm n2 f2 st2 ev W) (hB : B + 1 < w4.heap.size) (hX : ∀ k, X k → k < B) (H5 : HeapAt w5 hb X5 sz tm n5 f5 st5) (G5 : Grows W.heap.size Xk X5) (F5 : Fr Xk W w5) (p : Nat) :
    ChI w4 B hb X X5 sz tm n5 f5 st5 p (w5.setCell ⟨B + 1, 0, none⟩ (.int .u64 (p : Int))) ∧ KeepsOthers W (w5.setCell ⟨B + 1, 0, none⟩ (.int .u64 (p : Int))) ∧ w5.heap[B + 1]? = some (.cells #[.int .u64 (ev : Int)] 22 (0, 0)) ∧ (∀ j, j < w4.heap.size → ¬ X j → j ≠ B + 1 → ∀ o, (w5.setCell ⟨B + 1, 0, none⟩ (.int .u64 (p : Int))).cell? ⟨j, o, none⟩ = W.cell? ⟨j, o, none⟩) := by
  have hs := h.F.size
  have hs5 := F5.size
  have nB : ¬ Xk (B + 1) := h.not hB (fun e => by have := hX _ e; omega)
  have b5 := (F5.block (B + 1) (by omega) nB).trans h.be
  have F1 : Fr (fun k => k = B + 1) w5 (w5.setCell ⟨B + 1, 0, none⟩ (.int .u64 (p : Int))) := Fr.setCell (S := fun k => k = B + 1) (Fr.refl _ _) (fun _ => rfl) _ _
  have G : Grows w4.heap.size X X5 := h.G.trans G5 hs
  have n5 : ¬ X5 (B + 1) := fun e => by
    rcases G _ e with e | e
    · have := hX _ e; omega
    · omega
  refine ⟨⟨H5.fr F1 (fun k hk e => n5 (e ▸ hk)), G, Fr.trans (Fr.trans h.F F5 (fun k hk e => ?_)) F1 (fun k _ e => .inr e), heap_setCell_same w5 _ 0 _ _ _ b5⟩, (Fr.others h.H F5).trans (KeepsOthers.setCell _ _ _), b5, fun j hj hx hne o => ?_⟩
  · rcases h.G k e with e | e
    · exact .inl e
    · omega
  · exact (F1.cell (by omega) hne).trans (F5.cell (by omega) (h.not hj hx))

set_option maxRecDepth 100000 in
set_option maxHeartbeats 4000000 in
theorem chain_yes (w : World) (sb hb : Nat) (X : Nat → Prop) (sz : Nat) (tm : Int) (n : Nat) (f : Nat → Nat) (st : Nat → Bool) (e0 : Nat) (v : Value) (b off l : Nat) (r : Nat → Nat) (h : HeapAt w hb X sz tm n f st) (hS : w.cell? ⟨sb, 0, none⟩ = some (.pointer (some ⟨hb, 0, none⟩))) (hsX : ¬ X sb)
    (hv : WordsV w v b off l r) (hbX : ¬ X b) (hr : ∀ i, r i < 18446744073709551616) (hm : ∀ i, may st (r i) = true) (he : e0 < 18446744073709551616) (hme : may st e0 = true) (hroom : n + 3 * l ≤ sz) :
    Calls Try.prog 74 #[.pointer (some ⟨sb, 0, none⟩), .int .u64 (e0 : Int), v] w fun e w' => e = .returned (.tuple #[.int .u64 (chainE n e0 l : Int), .bool true]) ∧ ∃ X2, HeapAt w' hb X2 sz tm (n + 3 * l) (chainF f n e0 (fun k => r (l - 1 - k)) l) (chainSt st n l) ∧ Grows w.heap.size X X2 ∧ Fr X w w' := by
  have hXl : ∀ k, X k → k < w.heap.size := fun k hk => h.lt hk
  have hz := h.good.2.2
  have hsl : sb < w.heap.size := World.block_lt_of_cell? _ _ hS
  obtain ⟨ao, lv, cv, hvv⟩ : ∃ ao lv cv, v = .slice ao lv cv := by
    rcases hv with ⟨a, c, e1, _⟩ | ⟨c, e1, _⟩
    · exact ⟨_, _, _, e1⟩
    · exact ⟨_, _, _, e1⟩
  subst hvv
  refine (callsIn_wide (n := 4)).1 ?_
  refine callsIn_of_wp_marks Try.func74 rfl trivial ?_ rfl
  simp only [Try.ntmps74, List.size_toArray, List.length_cons, List.length_nil, Nat.reduceAdd, Nat.reduceSub, Array.replicate_succ, Array.replicate_zero, List.push_toArray, List.append_toArray, List.nil_append, List.cons_append]
  refine wpIn_wide.2 ?_
  have HH := hide h
  have HV := hide hv
  have HR := hide hr
  have HM := hide hm
  clear h hv hr hm
  go_wp2_with (go_at_call 109; refine (callsIn_wide.1 (back_in Fence.wide 3 trivial rfl ao lv cv _)).mono ?_; rintro e w4 ⟨rfl, hw4⟩)
  have F4 : Fr (fun _ => False) w w4 := by rw [hw4]; exact (((((Fr.refl _ w).alloc _).alloc _).alloc _).alloc _).alloc _
  have s4 : w4.heap.size = w.heap.size + 5 := by rw [hw4]; simp
  have blocks : w4.heap[w.heap.size]? = some (.cells #[.pointer (some ⟨sb, 0, none⟩)] 31 (0, 0)) ∧ w4.heap[w.heap.size + 1]? = some (.cells #[.int .u64 (e0 : Int)] 22 (0, 0)) ∧ w4.heap[w.heap.size + 2]? = some (.cells #[.int .u64 0] 22 (0, 0)) ∧ w4.heap[w.heap.size + 3]? = some (.cells #[.bool false] 4 (0, 0)) ∧ w4.heap[w.heap.size + 4]? = some (.cells #[.slice ao lv cv] 35 (0, 0)) := by
    rw [hw4]
    have a0 := heap_alloc_new w (.cells #[.pointer (some ⟨sb, 0, none⟩)] 31)
    have a1 := heap_alloc_new (w.alloc (.cells #[.pointer (some ⟨sb, 0, none⟩)] 31)) (.cells #[.int .u64 (e0 : Int)] 22)
    have a2 := heap_alloc_new ((w.alloc (.cells #[.pointer (some ⟨sb, 0, none⟩)] 31)).alloc (.cells #[.int .u64 (e0 : Int)] 22)) (.cells #[.int .u64 0] 22)
    have a3 := heap_alloc_new (((w.alloc (.cells #[.pointer (some ⟨sb, 0, none⟩)] 31)).alloc (.cells #[.int .u64 (e0 : Int)] 22)).alloc (.cells #[.int .u64 0] 22)) (.cells #[.bool false] 4)
    have a4 := heap_alloc_new ((((w.alloc (.cells #[.pointer (some ⟨sb, 0, none⟩)] 31)).alloc (.cells #[.int .u64 (e0 : Int)] 22)).alloc (.cells #[.int .u64 0] 22)).alloc (.cells #[.bool false] 4)) (.cells #[.slice ao lv cv] 35)
    simp only [World.size_alloc] at a1 a2 a3 a4
    have o := fun (W : World) (ob : Obj) (k : Nat) (hk : k < W.heap.size) => heap_alloc_old W ob k hk
    refine ⟨?_, ?_, ?_, ?_, a4⟩
    · rw [o _ _ _ (by simp only [World.size_alloc]; omega), o _ _ _ (by simp only [World.size_alloc]; omega), o _ _ _ (by simp only [World.size_alloc]; omega), o _ _ _ (by simp only [World.size_alloc]; omega)]; exact a0
    · rw [o _ _ _ (by simp only [World.size_alloc]; omega), o _ _ _ (by simp only [World.size_alloc]; omega), o _ _ _ (by simp only [World.size_alloc]; omega)]; exact a1
    · rw [o _ _ _ (by simp only [World.size_alloc]; omega), o _ _ _ (by simp only [World.size_alloc]; omega)]; exact a2
    · rw [o _ _ _ (by simp only [World.size_alloc]; omega)]; exact a3
  have hI0 : ChI w4 w.heap.size hb X X sz tm (n + 3 * 0) (chainF f n e0 (gotW r []) 0) (chainSt st n 0) (chainE n e0 0) w4 := ⟨HH.out.fr F4 (fun _ _ e => e), Grows.refl _ _, Fr.refl _ _, blocks.2.1⟩
  have hv4 : WordsV w4 (.slice ao lv cv) b off l r := by
    rcases HV.out with e | ⟨c, e1, e2, e3, e4⟩
    · exact .inl e
    · exact .inr ⟨c, e1, e2, by omega, fun i hi => (F4.cell e3 (fun e => e)).trans (e4 i hi)⟩
  have hbl : 0 < l → b < w.heap.size := fun hl => by
    rcases HV.out with ⟨_, _, _, e⟩ | ⟨c, e1, e2, e3, e4⟩
    · omega
    · exact e3
  rw [← hw4]
  have HW4 := hide hw4
  clear hw4
  refine (wpIn_wide (n := 5)).1 ?_
  refine' wpIn_rangeFunc_ownF (F := Fence.wide) rfl (by decide) (gf := 132) (lb := #[.pointer (some ⟨w.heap.size + 4, 0, none⟩)]) rfl trivial (enters_of Try.func132 (by kernel_rfl) rfl) (back_stops Fence.wide 4 trivial rfl (by decide) (w.heap.size + 4) b off l r (.slice ao lv cv) w4 hv4 (by omega) (cell_of_row w4 _ 0 _ _ _ blocks.2.2.2.2)) (fun h k => h.trans k) ?keepb (Below.refl _ _) (fun _ => rfl) (fun pre W => ∃ Xk, ChI w4 w.heap.size hb X Xk sz tm (n + 3 * pre.length) (chainF f n e0 (gotW r pre) pre.length) (chainSt st n pre.length) (chainE n e0 pre.length) W) (fun _ _ _ => False) ?own (fun _ _ _ _ _ h _ _ => h) ⟨X, hI0⟩ _ ?assign ?body ?done ?stop
  case keepb =>
    intro W q o o' hl ho hc hwk
    refine ⟨World.cell?_of_block (World.putObj_heap_other (fun e => by have e2 : w.heap.size + 4 = q := e; omega)), fun i hi => World.cell?_of_block (World.putObj_heap_other (fun e => ?_))⟩
    have e2 : b = q := e
    have := hbl (by omega)
    omega
  case own =>
    rintro pre A C row ⟨Xk, h⟩ hg hr
    exact ⟨Xk, h.grown (by omega) hg hr⟩
  case assign =>
    intro q x W K hK
    gi_wp2
    exact hK
  case body =>
    rintro q pre x W ⟨Xk, hI⟩ hlen
    have hsW := hI.F.size
    have c0 : W.cell? ⟨w.heap.size, 0, none⟩ = some (.pointer (some ⟨sb, 0, none⟩)) := (hI.F.cell (by omega) (fun e => by rcases e with e | e; (have := hXl _ e; omega); omega)).trans (cell_of_row w4 _ 0 _ _ _ blocks.1)
    have c1 := cell_of_row W (w.heap.size + 1) 0 _ _ _ hI.be
    have fz := frozen_of_row W (w.heap.size + 1) 0 _ _ hI.be
    have cs : W.cell? ⟨sb, 0, none⟩ = some (.pointer (some ⟨hb, 0, none⟩)) := (hI.F.cell (by omega) (fun e => by rcases e with e | e; (exact hsX e); omega)).trans ((F4.cell hsl (fun e => e)).trans hS)
    obtain ⟨k, hk⟩ : ∃ k, k = pre.length := ⟨_, rfl⟩
    obtain ⟨p, hp⟩ : ∃ p, p = 4 * (n + 3 * k) := ⟨_, rfl⟩
    have KC := cons_yes W sb hb Xk sz tm (n + 3 * pre.length) (chainF f n e0 (gotW r pre) pre.length) (chainSt st n pre.length) (r x) (chainE n e0 pre.length) hI.H cs (hI.not (by omega) hsX) (HR.out x) (chainE_lt he (by omega)) (may_chain (HM.out x) _) (may_chainE hme _) (by omega)
    have hF2 : consF (chainF f n e0 (gotW r pre) pre.length) (n + 3 * pre.length) (r x) (chainE n e0 pre.length) = chainF f n e0 (gotW r (pre ++ [x])) (pre ++ [x]).length := by
      rw [List.length_append, List.length_singleton]
      show _ = consF (chainF f n e0 (gotW r (pre ++ [x])) pre.length) _ (gotW r (pre ++ [x]) pre.length) _
      rw [gotW_new, chainF_congr (fun j hj => gotW_old hj)]
    have hn3 : n + 3 * pre.length + 3 = n + 3 * (pre ++ [x]).length := by rw [List.length_append, List.length_singleton]; omega
    have hst3 : also (chainSt st n pre.length) (n + 3 * pre.length) = chainSt st n (pre ++ [x]).length := by rw [List.length_append, List.length_singleton]; rfl
    have hpe : p = chainE n e0 (pre ++ [x]).length := by rw [List.length_append, List.length_singleton, hp, hk]; rfl
    rw [hF2, hn3, hst3, ← hk, ← hp] at KC
    rw [← hk] at c1
    have HKC := hide KC
    have HI := hide hI
    have HPE := hide hpe
    generalize chainE n e0 k = ev at *
    clear KC hI hF2 hn3 hst3 hpe hp
    generalize r x = y at *
    gi_wp2_with (refine ⟨trivial, ?_⟩; gi_at_call 82; refine (CallsIn.inRound q (callsIn_wide.2 HKC.out)).mono ?_; rintro e w5 ⟨rfl, X5, H5, G5, F5⟩; obtain ⟨I5, K5, b5, o5⟩ := HI.out.step (by omega) hXl H5 G5 F5 p; have c5 := cell_of_row w5 _ 0 _ _ _ b5; have z5 := frozen_of_row w5 _ 0 _ _ b5; have HI5 := hide I5; have HK5 := hide K5; have HO5 := hide o5; clear H5 G5 F5 I5 K5 b5 o5)
    refine ⟨HK5.out, ⟨HO5.out _ (by omega) (fun e => by have := hXl _ e; omega) (by omega) 0, fun i hi => HO5.out b (by have := hbl (by omega); omega) hbX (by have := hbl (by omega); omega) _⟩, X5, ?_⟩
    have := HI5.out
    rw [HPE.out] at this
    rw [HPE.out]
    exact this
  case done =>
    rintro D ys W hD rfl ⟨Xk, hI⟩ hK
    rw [downs_length] at hI
    have c1 := cell_of_row W (w.heap.size + 1) 0 _ _ _ hI.be
    have nX : ∀ j, j < w4.heap.size → w.heap.size ≤ j → j ≠ w.heap.size + 1 → ¬ (X j ∨ j = w.heap.size + 1) := fun j h1 h2 h3 e => by
      rcases e with e | e
      · have := hXl _ e; omega
      · exact h3 e
    have b2 : W.heap[w.heap.size + 1 + 1]? = some (.cells #[.int .u64 0] 22 (0, 0)) := (hI.F.block (w.heap.size + 2) (by omega) (nX _ (by omega) (by omega) (by omega))).trans blocks.2.2.1
    have b3 : W.heap[w.heap.size + 1 + 1 + 1]? = some (.cells #[.bool false] 4 (0, 0)) := (hI.F.block (w.heap.size + 3) (by omega) (nX _ (by omega) (by omega) (by omega))).trans blocks.2.2.2.1
    have d2 := cell_of_row W (w.heap.size + 1 + 1) 0 _ _ _ b2
    have d3 := cell_of_row W (w.heap.size + 1 + 1 + 1) 0 _ _ _ b3
    have z2 := frozen_of_row W (w.heap.size + 1 + 1) 0 _ _ b2
    have z3 := frozen_of_row W (w.heap.size + 1 + 1 + 1) 0 _ _ b3
    have HI := hide hI
    have HB2 := hide b2
    have HB3 := hide b3
    obtain ⟨ev, hev⟩ : ∃ ev, ev = chainE n e0 l := ⟨_, rfl⟩
    rw [← hev] at c1
    clear hI b2 b3
    have HEV := hide hev
    clear hev
    go_wp2
    have FA : Fr (fun k => k = w.heap.size + 1 + 1) W (W.setCell ⟨w.heap.size + 1 + 1, 0, none⟩ (.int .u64 (ev : Int))) := Fr.setCell (S := fun k => k = w.heap.size + 1 + 1) (Fr.refl _ _) (fun _ => rfl) _ _
    have FB : Fr (fun k => k = w.heap.size + 1 + 1 + 1) (W.setCell ⟨w.heap.size + 1 + 1, 0, none⟩ (.int .u64 (ev : Int))) ((W.setCell ⟨w.heap.size + 1 + 1, 0, none⟩ (.int .u64 (ev : Int))).setCell ⟨w.heap.size + 1 + 1 + 1, 0, none⟩ (.bool true)) := Fr.setCell (S := fun k => k = w.heap.size + 1 + 1 + 1) (Fr.refl _ _) (fun _ => rfl) _ _
    have h2 := heap_setCell_same W (w.heap.size + 1 + 1) 0 _ _ (.int .u64 (ev : Int)) HB2.out
    have l2 := (Array.getElem?_eq_some_iff.1 h2).1
    have h22 := (FB.block _ l2 (by omega)).trans h2
    have l3 := (Array.getElem?_eq_some_iff.1 HB3.out).1
    have h3 := heap_setCell_same _ (w.heap.size + 1 + 1 + 1) 0 _ _ (.bool true) ((FA.block _ l3 (by omega)).trans HB3.out)
    have FW : Fr (fun k => k = w.heap.size + 1 + 1 ∨ k = w.heap.size + 1 + 1 + 1) W _ := Fr.trans (FA.mono fun _ _ e => .inl e) FB (fun _ _ e => .inr e)
    have lD := (Array.getElem?_eq_some_iff.1 hK).1
    have hK6 := (FW.block D lD (by omega)).trans hK
    clear d2 d3 z2 z3 c1 FA FB h2 l2
    generalize ((W.setCell ⟨w.heap.size + 1 + 1, 0, none⟩ (.int .u64 (ev : Int))).setCell ⟨w.heap.size + 1 + 1 + 1, 0, none⟩ (.bool true)) = W6 at *
    have FP : Fr (fun k => k = D) W6 (W6.putObj D (.deferred none)) := (Fr.refl _ W6).grow (grownBy_putObj' W6 D (.deferred none)) (fun k _ e => by cases e; rfl)
    have i2 := cell_of_row _ (w.heap.size + 1 + 1) 0 _ _ _ ((FP.block _ (Array.getElem?_eq_some_iff.1 h22).1 (by omega)).trans h22)
    have i3 := cell_of_row _ (w.heap.size + 1 + 1 + 1) 0 _ _ _ ((FP.block _ (Array.getElem?_eq_some_iff.1 h3).1 (by omega)).trans h3)
    have I := HI.out
    refine ⟨by simp, .inl ⟨_, _, rfl, run_takeDeferred hK6, ?_⟩⟩
    refine ⟨_, by simp [results, Try.results74, go_sem, i2, i3]; rfl, ?_⟩
    have nx : ∀ j, w.heap.size ≤ j → j < w4.heap.size → ¬ Xk j := fun j h1 h2 => I.not h2 (fun e => by have := hXl _ e; omega)
    have H6 := (I.H.fr FW (fun k hk e => by
      rcases e with e | e
      · exact nx k (by omega) (by omega) hk
      · exact nx k (by omega) (by omega) hk)).grown (grownBy_putObj' W6 D (.deferred none)) (fun r e => by cases e; exact ⟨_, hK6, rfl⟩)
    refine ⟨by rw [HEV.out], Xk, ?_, fun k hk => ?_, Fr.trans (Fr.trans (Fr.trans (F4.mono fun _ _ e => e.elim) I.F (fun k hk e => ?_)) FW (fun k hk e => by omega)) FP (fun k hk e => by omega)⟩
    · rw [chainF_congr (fun j hj => gotW_downs hj)] at H6
      exact H6
    · rcases I.G k hk with e | e
      · exact .inl e
      · exact .inr (by omega)
    · rcases e with e | e
      · exact e
      · omega
  case stop =>
    rintro D c pre W hD hS2 hI hK
    exact hI.elim

end Go.Proofs.Ytenkidbimhmkbaa
