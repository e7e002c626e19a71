/-
  What is proved here: the document's own division downwards (chapter 2), by values.
-/
import Derived.Test.YtdiacbfdfoeemaaDoorR2Trunc
import Derived.Test.YtdiacbfdfoeemaaDoorR2Add
import Derived.Test.YtdiacbfdfoeemaaDoorNFloor
namespace Go.Proofs.YtdiacbfdfoeemaaDoor
open Go Go.RowKit

/-- The sign of a canonical number. -/
theorem canon_sign {Y : Int} {M : Nat} {w : World} {lo hi : Nat} {v : Value} {sy : Bool} (h : NumIn Y M w lo hi v) (hs : sy = decide (Y < 0)) : ∃ u, ∃ (_ : True), v = .agg #[.bool sy, u] := by
  obtain ⟨b, n, f, ⟨u, rfl, o⟩, c, l, s⟩ := h
  refine ⟨u, trivial, ?_⟩
  have e : b = sy := by
    rw [hs, ← s]
    cases b
    · simp only [sgn]
      simp
    · have hq := num_pos c.1 (c.2 rfl)
      simp only [sgn]
      simp
      omega
  rw [e]

set_option linter.unusedSimpArgs false in
set_option maxRecDepth 4000 in
set_option maxHeartbeats 8000000 in
theorem r2floor_rd {X Y : Int} {M : Nat} {w : World} {a u : Value} (ha : RdD X M w a) (hu : RdD Y M w u) (hM : 2 * M + 15 ≤ 10000000000) :
    Calls Tryd.prog 37 #[a, u] w fun e w' => ∃ v, e = .returned v ∧ DivsIn (Int.fdiv X Y) (if Y = 0 then 0 else Int.fmod X Y) (decide (Y ≠ 0)) (M + 4) w' w.heap.size w'.heap.size v ∧ Up w w' := by
  obtain ⟨b0, ao0, n0, cap0, rfl⟩ := ha.agg
  obtain ⟨b1, ao1, n1, cap1, rfl⟩ := hu.agg
  have U0 := ((((up_alloc w (.cells #[.bool b0, .slice ao0 n0 cap0] 26)).tr (up_alloc _ (.cells #[.bool b1, .slice ao1 n1 cap1] 26))).tr (up_alloc _ (.cells #[.bool false, .slice none 0 0] 26))).tr (up_alloc _ (.cells #[.bool false, .slice none 0 0] 26)))
  have K3 := hide (four_blocks w (.cells #[.bool b0, .slice ao0 n0 cap0] 26) (.cells #[.bool b1, .slice ao1 n1 cap1] 26) (.cells #[.bool false, .slice none 0 0] 26) (.cells #[.bool false, .slice none 0 0] 26))
  have HA := hide ha
  have HU := hide hu
  clear ha hu
  obtain ⟨sy, hsy⟩ : ∃ sy, sy = decide (Y < 0) := ⟨_, rfl⟩
  have HSY := hide hsy
  clear hsy
  obtain ⟨ok, hok0⟩ : ∃ ok, ok = decide (Y ≠ 0) := ⟨_, rfl⟩
  obtain ⟨QF, hQF⟩ : ∃ q, q = Int.fdiv X Y := ⟨_, rfl⟩
  obtain ⟨RF, hRF⟩ : ∃ r, r = (if Y = 0 then 0 else Int.fmod X Y) := ⟨_, rfl⟩
  rw [← hok0, ← hQF, ← hRF]
  have HE := hide (And.intro hok0 (And.intro hQF hRF))
  clear hok0 hQF hRF
  go_enter Tryd.func37, Tryd.ntmps37
  go_wp2_with fail
  refine (r2trunc_rd ((unhide HA).up U0) ((unhide HU).up U0) (by omega)).mono ?_
  rintro e wa ⟨v, rfl, ⟨aq, ar, rfl, nq, nr⟩, ua⟩
  obtain ⟨bq, mq, fq, ⟨vq, rfl, oq⟩, cq, lq, sq⟩ := nq
  obtain ⟨br, mr, fr, ⟨vr, rfl, or⟩, cr, lr, sr⟩ := nr
  obtain ⟨aoq, capq, rfl, -⟩ := id oq.sl
  obtain ⟨aor, capr, rfl, -⟩ := id or.sl
  have hz : w.heap.size + 1 + 1 + 1 + 1 ≤ wa.heap.size := by have := ua.size; simp at this; omega
  have TB := two_blocks wa (.cells #[.bool bq, .slice aoq mq capq] 26) (.cells #[.bool br, .slice aor mr capr] 26)
  have UB := (up_alloc wa (.cells #[.bool bq, .slice aoq mq capq] 26)).tr (up_alloc _ (.cells #[.bool br, .slice aor mr capr] 26))
  have T1 := (ua.tr UB).blk (unhide K3).2.1
  have T2 := (ua.tr UB).blk (unhide K3).2.2.1
  have T3 := (ua.tr UB).blk (unhide K3).2.2.2
  have U5 := U0.tr (ua.tr UB)
  have OQ0 := (oq.keep (fun b _ hb => UB.block b hb)).wide (lo' := w.heap.size) (by simp; omega) (Nat.le_refl _)
  have OR0 := (or.keep (fun b _ hb => UB.block b hb)).wide (lo' := w.heap.size) (by simp; omega) (Nat.le_refl _)
  have n72 : wa.heap.size ≠ w.heap.size + 1 + 1 := by omega
  have n73 : wa.heap.size ≠ w.heap.size + 1 + 1 + 1 := by omega
  have n82 : wa.heap.size + 1 ≠ w.heap.size + 1 + 1 := by omega
  have n83 : wa.heap.size + 1 ≠ w.heap.size + 1 + 1 + 1 := by omega
  have n12 : w.heap.size + 1 ≠ w.heap.size + 1 + 1 := by omega
  have n13 : w.heap.size + 1 ≠ w.heap.size + 1 + 1 + 1 := by omega
  have HS := hide (And.intro sq sr)
  clear sq sr oq or ua U0 K3
  by_cases hY : Y = 0
  · have hok : decide (Y ≠ 0) = false := by simp [hY]
    have HOK := hide ((unhide HE).1.trans hok)
    rw [hok]
    have HQ := hide (show sgn bq (num 4294967296 fq mq) = QF ∧ sgn br (num 4294967296 fr mr) = RF from by
      rw [(unhide HE).2.1, (unhide HE).2.2]
      obtain ⟨s1, s2⟩ := unhide HS
      rw [s1, s2]
      unfold rz
      rw [if_pos hY, if_pos hY]
      exact ⟨(fdiv_of_tmod (.inl hY)).symm, rfl⟩)
    clear hok hY
    go_wp2_with fail
    refine wp_region_knd (by kernel_rfl) w U5 [[], [0], [1], [1, 2], [1, 3], [1, 4], [1, 5], [6], [7], [7, 8], [7], [7, 10], [7, 11], [7, 9, 12], [7, 13]] [.val [] (fun _ g _ => g.v = .bool false), .val [] (fun _ g _ => g.v = .bool false), .val [] (fun _ g _ => g.v = undef), .val [] (fun _ g _ => g.v = undef), .val [] (fun _ g _ => g.v = undef), .val [] (fun _ g _ => g.v = undef), .val [] (fun _ g _ => g.v = .bool false), .val [] (fun _ g _ => g.v = .bool false), .val [] (fun _ g _ => g.v = undef), .val [] (fun _ g _ => g.v = undef), .val [] (fun _ g _ => g.v = undef), .val [] (fun _ g _ => g.v = undef), .val [] (fun _ g _ => g.v = undef), .val [] (fun _ g _ => g.v = undef), .val [] (fun _ g _ => g.v = .bool false)] (by kernel_rfl) (by kernel_rfl) rfl ⟨trivial, trivial, trivial, trivial, trivial, trivial, trivial, trivial, trivial, trivial, trivial, trivial, trivial, trivial, trivial, trivial⟩ ⟨fun _ _ _ _ _ h => h, fun _ _ _ _ _ h => h, fun _ _ _ _ _ h => h, fun _ _ _ _ _ h => h, fun _ _ _ _ _ h => h, fun _ _ _ _ _ h => h, fun _ _ _ _ _ h => h, fun _ _ _ _ _ h => h, fun _ _ _ _ _ h => h, fun _ _ _ _ _ h => h, fun _ _ _ _ _ h => h, fun _ _ _ _ _ h => h, fun _ _ _ _ _ h => h, fun _ _ _ _ _ h => h, fun _ _ _ _ _ h => h, trivial⟩ ⟨?_, ?_, ?_, ?_, ?_, ?_, ?_, ?_, ?_, ?_, ?_, ?_, ?_, ?_, ?_, trivial⟩ ?_
    · intro x w1 K hU hS hO hd hK
      clear hd
      refine Veil.mk ?_; simp only [kgoal, putsFrom, depsOf, pu0, pu1, pu2, pu3, Nat.zero_add, Nat.reduceAdd, Nat.reduceBEq, Bool.or_false, Bool.false_or, Bool.or_true, Bool.true_or, Bool.false_eq_true, ↓reduceIte, Act.put, List.setIfInBounds_toArray, List.set_cons_zero, List.set_cons_succ]
      go_simp
      exact hK _ _ (Up.refl _) rfl
    · intro x w1 K hU hS hO hd hK
      have c0 : (x 0).v = _ := kval (hd 0 (by decide)).1 rfl
      clear hd
      refine Veil.mk ?_; simp only [kgoal, putsFrom, depsOf, pu0, pu1, pu2, pu3, Nat.zero_add, Nat.reduceAdd, Nat.reduceBEq, Bool.or_false, Bool.false_or, Bool.or_true, Bool.true_or, Bool.false_eq_true, ↓reduceIte, Act.put, List.setIfInBounds_toArray, List.set_cons_zero, List.set_cons_succ]
      simp only [c0]
      go_simp
      exact hK _ _ (Up.refl _) rfl
    · intro x w1 K hU hS hO hd hK
      have c1 : (x 1).v = _ := kval (hd 1 (by decide)).1 rfl
      clear hd
      refine Veil.mk ?_; simp only [kgoal, putsFrom, depsOf, pu0, pu1, pu2, pu3, Nat.zero_add, Nat.reduceAdd, Nat.reduceBEq, Bool.or_false, Bool.false_or, Bool.or_true, Bool.true_or, Bool.false_eq_true, ↓reduceIte, Act.put, List.setIfInBounds_toArray, List.set_cons_zero, List.set_cons_succ]
      simp only [c1]
      rw [if_neg (by intro h; cases h)]
      exact hK _ _ (Up.refl _) rfl
    · intro x w1 K hU hS hO hd hK
      have c1 : (x 1).v = _ := kval (hd 1 (by decide)).1 rfl
      have c2 : (x 2).v = _ := kval (hd 2 (by decide)).1 rfl
      clear hd
      refine Veil.mk ?_; simp only [kgoal, putsFrom, depsOf, pu0, pu1, pu2, pu3, Nat.zero_add, Nat.reduceAdd, Nat.reduceBEq, Bool.or_false, Bool.false_or, Bool.or_true, Bool.true_or, Bool.false_eq_true, ↓reduceIte, Act.put, List.setIfInBounds_toArray, List.set_cons_zero, List.set_cons_succ]
      simp only [c1, c2]
      rw [if_neg (by intro h; cases h)]
      exact hK _ _ (Up.refl _) rfl
    · intro x w1 K hU hS hO hd hK
      have c1 : (x 1).v = _ := kval (hd 1 (by decide)).1 rfl
      have c3 : (x 3).v = _ := kval (hd 3 (by decide)).1 rfl
      clear hd
      refine Veil.mk ?_; simp only [kgoal, putsFrom, depsOf, pu0, pu1, pu2, pu3, Nat.zero_add, Nat.reduceAdd, Nat.reduceBEq, Bool.or_false, Bool.false_or, Bool.or_true, Bool.true_or, Bool.false_eq_true, ↓reduceIte, Act.put, List.setIfInBounds_toArray, List.set_cons_zero, List.set_cons_succ]
      simp only [c1, c3]
      rw [if_neg (by intro h; cases h)]
      exact hK _ _ (Up.refl _) rfl
    · intro x w1 K hU hS hO hd hK
      have c1 : (x 1).v = _ := kval (hd 1 (by decide)).1 rfl
      have c4 : (x 4).v = _ := kval (hd 4 (by decide)).1 rfl
      clear hd
      refine Veil.mk ?_; simp only [kgoal, putsFrom, depsOf, pu0, pu1, pu2, pu3, Nat.zero_add, Nat.reduceAdd, Nat.reduceBEq, Bool.or_false, Bool.false_or, Bool.or_true, Bool.true_or, Bool.false_eq_true, ↓reduceIte, Act.put, List.setIfInBounds_toArray, List.set_cons_zero, List.set_cons_succ]
      simp only [c1, c4]
      rw [if_neg (by intro h; cases h)]
      exact hK _ _ (Up.refl _) rfl
    · intro x w1 K hU hS hO hd hK
      have c1 : (x 1).v = _ := kval (hd 1 (by decide)).1 rfl
      have c5 : (x 5).v = _ := kval (hd 5 (by decide)).1 rfl
      clear hd
      refine Veil.mk ?_; simp only [kgoal, putsFrom, depsOf, pu0, pu1, pu2, pu3, Nat.zero_add, Nat.reduceAdd, Nat.reduceBEq, Bool.or_false, Bool.false_or, Bool.or_true, Bool.true_or, Bool.false_eq_true, ↓reduceIte, Act.put, List.setIfInBounds_toArray, List.set_cons_zero, List.set_cons_succ]
      simp only [c1, c5]
      go_simp
      exact hK _ _ (Up.refl _) rfl
    · intro x w1 K hU hS hO hd hK
      have c6 : (x 6).v = _ := kval (hd 6 (by decide)).1 rfl
      clear hd
      refine Veil.mk ?_; simp only [kgoal, putsFrom, depsOf, pu0, pu1, pu2, pu3, Nat.zero_add, Nat.reduceAdd, Nat.reduceBEq, Bool.or_false, Bool.false_or, Bool.or_true, Bool.true_or, Bool.false_eq_true, ↓reduceIte, Act.put, List.setIfInBounds_toArray, List.set_cons_zero, List.set_cons_succ]
      simp only [c6]
      go_simp
      exact hK _ _ (Up.refl _) rfl
    · intro x w1 K hU hS hO hd hK
      have c7 : (x 7).v = _ := kval (hd 7 (by decide)).1 rfl
      clear hd
      refine Veil.mk ?_; simp only [kgoal, putsFrom, depsOf, pu0, pu1, pu2, pu3, Nat.zero_add, Nat.reduceAdd, Nat.reduceBEq, Bool.or_false, Bool.false_or, Bool.or_true, Bool.true_or, Bool.false_eq_true, ↓reduceIte, Act.put, List.setIfInBounds_toArray, List.set_cons_zero, List.set_cons_succ]
      simp only [c7]
      rw [if_neg (by intro h; cases h)]
      exact hK _ _ (Up.refl _) rfl
    · intro x w1 K hU hS hO hd hK
      have c7 : (x 7).v = _ := kval (hd 7 (by decide)).1 rfl
      have c8 : (x 8).v = _ := kval (hd 8 (by decide)).1 rfl
      clear hd
      refine Veil.mk ?_; simp only [kgoal, putsFrom, depsOf, pu0, pu1, pu2, pu3, Nat.zero_add, Nat.reduceAdd, Nat.reduceBEq, Bool.or_false, Bool.false_or, Bool.or_true, Bool.true_or, Bool.false_eq_true, ↓reduceIte, Act.put, List.setIfInBounds_toArray, List.set_cons_zero, List.set_cons_succ]
      simp only [c7, c8]
      rw [if_neg (by intro h; cases h)]
      exact hK _ _ (Up.refl _) rfl
    · intro x w1 K hU hS hO hd hK
      have c7 : (x 7).v = _ := kval (hd 7 (by decide)).1 rfl
      clear hd
      refine Veil.mk ?_; simp only [kgoal, putsFrom, depsOf, pu0, pu1, pu2, pu3, Nat.zero_add, Nat.reduceAdd, Nat.reduceBEq, Bool.or_false, Bool.false_or, Bool.or_true, Bool.true_or, Bool.false_eq_true, ↓reduceIte, Act.put, List.setIfInBounds_toArray, List.set_cons_zero, List.set_cons_succ]
      simp only [c7]
      rw [if_neg (by intro h; cases h)]
      exact hK _ _ (Up.refl _) rfl
    · intro x w1 K hU hS hO hd hK
      have c7 : (x 7).v = _ := kval (hd 7 (by decide)).1 rfl
      have c10 : (x 10).v = _ := kval (hd 10 (by decide)).1 rfl
      clear hd
      refine Veil.mk ?_; simp only [kgoal, putsFrom, depsOf, pu0, pu1, pu2, pu3, Nat.zero_add, Nat.reduceAdd, Nat.reduceBEq, Bool.or_false, Bool.false_or, Bool.or_true, Bool.true_or, Bool.false_eq_true, ↓reduceIte, Act.put, List.setIfInBounds_toArray, List.set_cons_zero, List.set_cons_succ]
      simp only [c7, c10]
      rw [if_neg (by intro h; cases h)]
      exact hK _ _ (Up.refl _) rfl
    · intro x w1 K hU hS hO hd hK
      have c7 : (x 7).v = _ := kval (hd 7 (by decide)).1 rfl
      have c11 : (x 11).v = _ := kval (hd 11 (by decide)).1 rfl
      clear hd
      refine Veil.mk ?_; simp only [kgoal, putsFrom, depsOf, pu0, pu1, pu2, pu3, Nat.zero_add, Nat.reduceAdd, Nat.reduceBEq, Bool.or_false, Bool.false_or, Bool.or_true, Bool.true_or, Bool.false_eq_true, ↓reduceIte, Act.put, List.setIfInBounds_toArray, List.set_cons_zero, List.set_cons_succ]
      simp only [c7, c11]
      rw [if_neg (by intro h; cases h)]
      exact hK _ _ (Up.refl _) rfl
    · intro x w1 K hU hS hO hd hK
      have c7 : (x 7).v = _ := kval (hd 7 (by decide)).1 rfl
      have c9 : (x 9).v = _ := kval (hd 9 (by decide)).1 rfl
      have c12 : (x 12).v = _ := kval (hd 12 (by decide)).1 rfl
      clear hd
      refine Veil.mk ?_; simp only [kgoal, putsFrom, depsOf, pu0, pu1, pu2, pu3, Nat.zero_add, Nat.reduceAdd, Nat.reduceBEq, Bool.or_false, Bool.false_or, Bool.or_true, Bool.true_or, Bool.false_eq_true, ↓reduceIte, Act.put, List.setIfInBounds_toArray, List.set_cons_zero, List.set_cons_succ]
      simp only [c7, c9, c12]
      rw [if_neg (by intro h; cases h)]
      exact hK _ _ (Up.refl _) rfl
    · intro x w1 K hU hS hO hd hK
      have c7 : (x 7).v = _ := kval (hd 7 (by decide)).1 rfl
      have c13 : (x 13).v = _ := kval (hd 13 (by decide)).1 rfl
      clear hd
      refine Veil.mk ?_; simp only [kgoal, putsFrom, depsOf, pu0, pu1, pu2, pu3, Nat.zero_add, Nat.reduceAdd, Nat.reduceBEq, Bool.or_false, Bool.false_or, Bool.or_true, Bool.true_or, Bool.false_eq_true, ↓reduceIte, Act.put, List.setIfInBounds_toArray, List.set_cons_zero, List.set_cons_succ]
      simp only [c7, c13]
      go_simp
      exact hK _ _ (Up.refl _) rfl
    intro x w1 hU hS hR hlo hdis
    have h14 : (x 14).v = .bool false := kval (hR 14 (by decide)) rfl
    have HC := hS.upb rfl
    have BC := Up.tr (up_drew _) HC
    have C1 := BC.blk T1
    have C2 := BC.blk T2
    have C3 := BC.blk T3
    have C7 := BC.blk TB.1
    have C8 := BC.blk TB.2
    have OQ := OQ0.keep (fun b _ hb => BC.block b (by have := UB.size; omega))
    have OR := OR0.keep (fun b _ hb => BC.block b (by have := UB.size; omega))
    have UC := hU
    refine Veil.mk ?_; simp only [kgoal, putsFrom, depsOf, pu0, pu1, pu2, pu3, Nat.zero_add, Nat.reduceAdd, Nat.reduceBEq, Bool.or_false, Bool.false_or, Bool.or_true, Bool.true_or, Bool.false_eq_true, ↓reduceIte, Act.put, List.setIfInBounds_toArray, List.set_cons_zero, List.set_cons_succ]
    rw [h14]
    generalize (x 0).v = y0 at *
    generalize (x 1).v = y1 at *
    generalize (x 2).v = y2 at *
    generalize (x 3).v = y3 at *
    generalize (x 4).v = y4 at *
    generalize (x 5).v = y5 at *
    generalize (x 6).v = y6 at *
    generalize (x 7).v = y7 at *
    generalize (x 8).v = y8 at *
    generalize (x 9).v = y9 at *
    generalize (x 10).v = y10 at *
    generalize (x 11).v = y11 at *
    generalize (x 12).v = y12 at *
    generalize (x 13).v = y13 at *
    clear hR hlo hdis hS HC BC h14 T1 T2 T3 TB OQ0 OR0 hU U5
    go_wp2_with fail
    refine wp_region_knd (by kernel_rfl) w UC [[], [], [], [0], [1], [2]] [.val [] (fun _ g _ => g.v = .agg #[.bool bq, .slice aoq mq capq]), .val [] (fun _ g _ => g.v = .agg #[.bool br, .slice aor mr capr]), .val [] (fun _ g _ => g.v = .bool false), .old (w.heap.size + 1 + 1) 0 26 2, .old (w.heap.size + 1 + 1 + 1) 1 26 2, .val [2] (fun _ g vs => vs = [g.v])] (by kernel_rfl) (by kernel_rfl) rfl ⟨trivial, trivial, trivial, ⟨by omega, (Array.getElem?_eq_some_iff.1 C2).1, by simp [oldG]⟩, ⟨by omega, (Array.getElem?_eq_some_iff.1 C3).1, by simp [oldG]⟩, trivial, trivial⟩ ⟨fun _ _ _ _ _ h => h, fun _ _ _ _ _ h => h, fun _ _ _ _ _ h => h, trivial, trivial, fun _ _ _ _ _ h => h, trivial⟩ ⟨?_, ?_, ?_, ?_, ?_, ?_, trivial⟩ ?_
    · intro x w1 K hU hS hO hd hK
      obtain ⟨c0, c1, -⟩ := cells2 (hS.at C7 ⟨trivial, trivial, trivial, n72, n73, trivial, trivial⟩)
      refine Veil.mk ?_; simp only [kgoal, putsFrom, depsOf, pu0, pu1, pu2, pu3, Nat.zero_add, Nat.reduceAdd, Nat.reduceBEq, Bool.or_false, Bool.false_or, Bool.or_true, Bool.true_or, Bool.false_eq_true, ↓reduceIte, Act.put, List.setIfInBounds_toArray, List.set_cons_zero, List.set_cons_succ]
      go_simp
      exact hK _ _ (Up.refl _) rfl
    · intro x w1 K hU hS hO hd hK
      obtain ⟨c0, c1, -⟩ := cells2 (hS.at C8 ⟨trivial, trivial, trivial, n82, n83, trivial, trivial⟩)
      refine Veil.mk ?_; simp only [kgoal, putsFrom, depsOf, pu0, pu1, pu2, pu3, Nat.zero_add, Nat.reduceAdd, Nat.reduceBEq, Bool.or_false, Bool.false_or, Bool.or_true, Bool.true_or, Bool.false_eq_true, ↓reduceIte, Act.put, List.setIfInBounds_toArray, List.set_cons_zero, List.set_cons_succ]
      go_simp
      exact hK _ _ (Up.refl _) rfl
    · intro x w1 K hU hS hO hd hK
      refine Veil.mk ?_; simp only [kgoal, putsFrom, depsOf, pu0, pu1, pu2, pu3, Nat.zero_add, Nat.reduceAdd, Nat.reduceBEq, Bool.or_false, Bool.false_or, Bool.or_true, Bool.true_or, Bool.false_eq_true, ↓reduceIte, Act.put, List.setIfInBounds_toArray, List.set_cons_zero, List.set_cons_succ]
      go_simp
      exact hK _ _ (Up.refl _) rfl
    · intro x w1 K hU hS hO hd hK
      have es : (x 0).v = _ := kval (hd 0 (by decide)).1 rfl
      have tt := (hO 3 _ _ rfl rfl (.inl rfl)).trans C2
      obtain ⟨d0, d1, f0, f1, -⟩ := cells2 tt
      clear hd
      refine Veil.mk ?_; simp only [kgoal, putsFrom, depsOf, pu0, pu1, pu2, pu3, Nat.zero_add, Nat.reduceAdd, Nat.reduceBEq, Bool.or_false, Bool.false_or, Bool.or_true, Bool.true_or, Bool.false_eq_true, ↓reduceIte, Act.put, List.setIfInBounds_toArray, List.set_cons_zero, List.set_cons_succ]
      go_simp
      exact hK _ _ (sto_two tt _ _).1 ⟨_, rfl, es, (sto_two tt _ _).2⟩
    · intro x w1 K hU hS hO hd hK
      have es : (x 1).v = _ := kval (hd 1 (by decide)).1 rfl
      have tt := (hO 4 _ _ rfl rfl (.inl rfl)).trans C3
      obtain ⟨d0, d1, f0, f1, -⟩ := cells2 tt
      clear hd
      refine Veil.mk ?_; simp only [kgoal, putsFrom, depsOf, pu0, pu1, pu2, pu3, Nat.zero_add, Nat.reduceAdd, Nat.reduceBEq, Bool.or_false, Bool.false_or, Bool.or_true, Bool.true_or, Bool.false_eq_true, ↓reduceIte, Act.put, List.setIfInBounds_toArray, List.set_cons_zero, List.set_cons_succ]
      go_simp
      exact hK _ _ (sto_two tt _ _).1 ⟨_, rfl, es, (sto_two tt _ _).2⟩
    · intro x w1 K hU hS hO hd hK
      refine Veil.mk ?_; simp only [kgoal, putsFrom, depsOf, pu0, pu1, pu2, pu3, Nat.zero_add, Nat.reduceAdd, Nat.reduceBEq, Bool.or_false, Bool.false_or, Bool.or_true, Bool.true_or, Bool.false_eq_true, ↓reduceIte, Act.put, List.setIfInBounds_toArray, List.set_cons_zero, List.set_cons_succ]
      go_simp
      exact hK _ _ (Up.refl _) rfl
    intro x w1 hU hS hR hlo hdis
    obtain ⟨cs1, -, q1, t1⟩ := kold (hR 3 (by decide)) rfl
    obtain ⟨cs2, -, q2, t2⟩ := kold (hR 4 (by decide)) rfl
    have hokv : (x 5).v = .bool false := by have h2 : (x 2).v = _ := kval (hR 2 (by decide)) rfl; have h5 : [(x 2).v] = [(x 5).v] := kval (hR 5 (by decide)) rfl; rw [← h2]; exact (List.cons.inj h5).1.symm
    have eQ : (x 0).v = _ := kval (hR 0 (by decide)) rfl
    have eR : (x 1).v = _ := kval (hR 1 (by decide)) rfl
    have OQ' := (OQ.1.up (up_drew _)).since hS ⟨trivial, trivial, trivial, ⟨_, _, C2, by decide⟩, ⟨_, _, C3, by decide⟩, trivial, trivial⟩
    have OR' := (OR.1.up (up_drew _)).since hS ⟨trivial, trivial, trivial, ⟨_, _, C2, by decide⟩, ⟨_, _, C3, by decide⟩, trivial, trivial⟩
    rw [eQ] at q1
    cases q1
    rw [eR] at q2
    cases q2
    obtain ⟨d0, d1, -⟩ := cells2 t1
    obtain ⟨d2, d3, -⟩ := cells2 t2
    refine Veil.mk ?_; simp only [kgoal, putsFrom, depsOf, pu0, pu1, pu2, pu3, Nat.zero_add, Nat.reduceAdd, Nat.reduceBEq, Bool.or_false, Bool.false_or, Bool.or_true, Bool.true_or, Bool.false_eq_true, ↓reduceIte, Act.put, List.setIfInBounds_toArray, List.set_cons_zero, List.set_cons_succ]
    rw [hokv]
    clear hR hdis hS
    go_wp2_with fail
    refine bodyPost_ret (by simp [results, Tryd.results37, go_sem, d0, d1, d2, d3]; rfl) rfl ?_
    exact ⟨_, rfl, ⟨_, _, by rw [unhide HOK], ⟨bq, mq, fq, ⟨_, rfl, OwnIn.of (OQ'.mono (by omega))⟩, cq, by omega, (unhide HQ).1⟩, ⟨br, mr, fr, ⟨_, rfl, OwnIn.of (OR'.mono (by omega))⟩, cr, by omega, (unhide HQ).2⟩⟩, hU⟩
  · have hok : decide (Y ≠ 0) = true := decide_eq_true hY
    have HOK := hide ((unhide HE).1.trans hok)
    rw [hok]
    by_cases hr : mr = 0
    · have HQ := hide (show sgn bq (num 4294967296 fq mq) = QF ∧ sgn br (num 4294967296 fr mr) = RF from by
        rw [(unhide HE).2.1, (unhide HE).2.2]
        obtain ⟨s1, s2⟩ := unhide HS
        have h0 : Int.tmod X Y = 0 := by
          unfold rz at s2
          rw [if_neg hY] at s2
          rw [← s2, hr]
          cases br <;> simp [sgn, num]
        rw [s1, s2]
        unfold rz
        rw [if_neg hY, if_neg hY, h0]
        refine ⟨(fdiv_of_tmod (.inr h0)).symm, ?_⟩
        rw [Int.fmod_def, fdiv_of_tmod (.inr h0)]
        have := Int.mul_tdiv_add_tmod X Y
        omega)
      clear hok hY
      subst hr
      go_wp2_with fail
      refine wp_region_knd (by kernel_rfl) w U5 [[], [0], [1], [1, 2], [1, 3], [1, 4], [1, 5], [6], [7], [7, 8], [7], [7, 10], [7, 11], [7, 9, 12], [7, 13]] [.val [] (fun _ g _ => g.v = .bool true), .val [] (fun _ g _ => g.v = .bool true), .val [] (fun _ g _ => g.v = .pointer (some ⟨wa.heap.size + 1, 1, none⟩)), .val [] (fun _ g _ => g.v = .slice aor 0 capr), .val [] (fun _ g _ => g.v = .int .i64 0), .val [] (fun _ g _ => g.v = .bool false), .val [] (fun _ g _ => g.v = .bool false), .val [] (fun _ g _ => g.v = .bool false), .val [] (fun _ g _ => g.v = undef), .val [] (fun _ g _ => g.v = undef), .val [] (fun _ g _ => g.v = undef), .val [] (fun _ g _ => g.v = undef), .val [] (fun _ g _ => g.v = undef), .val [] (fun _ g _ => g.v = undef), .val [] (fun _ g _ => g.v = .bool false)] (by kernel_rfl) (by kernel_rfl) rfl ⟨trivial, trivial, trivial, trivial, trivial, trivial, trivial, trivial, trivial, trivial, trivial, trivial, trivial, trivial, trivial, trivial⟩ ⟨fun _ _ _ _ _ h => h, fun _ _ _ _ _ h => h, fun _ _ _ _ _ h => h, fun _ _ _ _ _ h => h, fun _ _ _ _ _ h => h, fun _ _ _ _ _ h => h, fun _ _ _ _ _ h => h, fun _ _ _ _ _ h => h, fun _ _ _ _ _ h => h, fun _ _ _ _ _ h => h, fun _ _ _ _ _ h => h, fun _ _ _ _ _ h => h, fun _ _ _ _ _ h => h, fun _ _ _ _ _ h => h, fun _ _ _ _ _ h => h, trivial⟩ ⟨?_, ?_, ?_, ?_, ?_, ?_, ?_, ?_, ?_, ?_, ?_, ?_, ?_, ?_, ?_, trivial⟩ ?_
      · intro x w1 K hU hS hO hd hK
        clear hd
        refine Veil.mk ?_; simp only [kgoal, putsFrom, depsOf, pu0, pu1, pu2, pu3, Nat.zero_add, Nat.reduceAdd, Nat.reduceBEq, Bool.or_false, Bool.false_or, Bool.or_true, Bool.true_or, Bool.false_eq_true, ↓reduceIte, Act.put, List.setIfInBounds_toArray, List.set_cons_zero, List.set_cons_succ]
        go_simp
        exact hK _ _ (Up.refl _) rfl
      · intro x w1 K hU hS hO hd hK
        have c0 : (x 0).v = _ := kval (hd 0 (by decide)).1 rfl
        clear hd
        refine Veil.mk ?_; simp only [kgoal, putsFrom, depsOf, pu0, pu1, pu2, pu3, Nat.zero_add, Nat.reduceAdd, Nat.reduceBEq, Bool.or_false, Bool.false_or, Bool.or_true, Bool.true_or, Bool.false_eq_true, ↓reduceIte, Act.put, List.setIfInBounds_toArray, List.set_cons_zero, List.set_cons_succ]
        simp only [c0]
        go_simp
        exact hK _ _ (Up.refl _) rfl
      · intro x w1 K hU hS hO hd hK
        have c1 : (x 1).v = _ := kval (hd 1 (by decide)).1 rfl
        clear hd
        refine Veil.mk ?_; simp only [kgoal, putsFrom, depsOf, pu0, pu1, pu2, pu3, Nat.zero_add, Nat.reduceAdd, Nat.reduceBEq, Bool.or_false, Bool.false_or, Bool.or_true, Bool.true_or, Bool.false_eq_true, ↓reduceIte, Act.put, List.setIfInBounds_toArray, List.set_cons_zero, List.set_cons_succ]
        simp only [c1]
        rw [if_pos (by rfl)]
        go_simp
        exact hK _ _ (Up.refl _) rfl
      · intro x w1 K hU hS hO hd hK
        have c1 : (x 1).v = _ := kval (hd 1 (by decide)).1 rfl
        have c2 : (x 2).v = _ := kval (hd 2 (by decide)).1 rfl
        obtain ⟨k0, k1, -⟩ := cells2 ((Up.tr (up_drew _) (hS.upb rfl)).blk TB.2)
        clear hd
        refine Veil.mk ?_; simp only [kgoal, putsFrom, depsOf, pu0, pu1, pu2, pu3, Nat.zero_add, Nat.reduceAdd, Nat.reduceBEq, Bool.or_false, Bool.false_or, Bool.or_true, Bool.true_or, Bool.false_eq_true, ↓reduceIte, Act.put, List.setIfInBounds_toArray, List.set_cons_zero, List.set_cons_succ]
        simp only [c1, c2]
        rw [if_pos (by rfl)]
        go_simp
        exact hK _ _ (Up.refl _) rfl
      · intro x w1 K hU hS hO hd hK
        have c1 : (x 1).v = _ := kval (hd 1 (by decide)).1 rfl
        have c3 : (x 3).v = _ := kval (hd 3 (by decide)).1 rfl
        clear hd
        refine Veil.mk ?_; simp only [kgoal, putsFrom, depsOf, pu0, pu1, pu2, pu3, Nat.zero_add, Nat.reduceAdd, Nat.reduceBEq, Bool.or_false, Bool.false_or, Bool.or_true, Bool.true_or, Bool.false_eq_true, ↓reduceIte, Act.put, List.setIfInBounds_toArray, List.set_cons_zero, List.set_cons_succ]
        simp only [c1, c3]
        rw [if_pos (by rfl)]
        go_simp
        exact hK _ _ (Up.refl _) rfl
      · intro x w1 K hU hS hO hd hK
        have c1 : (x 1).v = _ := kval (hd 1 (by decide)).1 rfl
        have c4 : (x 4).v = _ := kval (hd 4 (by decide)).1 rfl
        clear hd
        refine Veil.mk ?_; simp only [kgoal, putsFrom, depsOf, pu0, pu1, pu2, pu3, Nat.zero_add, Nat.reduceAdd, Nat.reduceBEq, Bool.or_false, Bool.false_or, Bool.or_true, Bool.true_or, Bool.false_eq_true, ↓reduceIte, Act.put, List.setIfInBounds_toArray, List.set_cons_zero, List.set_cons_succ]
        simp only [c1, c4]
        rw [if_pos (by rfl)]
        go_simp
        exact hK _ _ (Up.refl _) rfl
      · intro x w1 K hU hS hO hd hK
        have c1 : (x 1).v = _ := kval (hd 1 (by decide)).1 rfl
        have c5 : (x 5).v = _ := kval (hd 5 (by decide)).1 rfl
        clear hd
        refine Veil.mk ?_; simp only [kgoal, putsFrom, depsOf, pu0, pu1, pu2, pu3, Nat.zero_add, Nat.reduceAdd, Nat.reduceBEq, Bool.or_false, Bool.false_or, Bool.or_true, Bool.true_or, Bool.false_eq_true, ↓reduceIte, Act.put, List.setIfInBounds_toArray, List.set_cons_zero, List.set_cons_succ]
        simp only [c1, c5]
        go_simp
        exact hK _ _ (Up.refl _) rfl
      · intro x w1 K hU hS hO hd hK
        have c6 : (x 6).v = _ := kval (hd 6 (by decide)).1 rfl
        clear hd
        refine Veil.mk ?_; simp only [kgoal, putsFrom, depsOf, pu0, pu1, pu2, pu3, Nat.zero_add, Nat.reduceAdd, Nat.reduceBEq, Bool.or_false, Bool.false_or, Bool.or_true, Bool.true_or, Bool.false_eq_true, ↓reduceIte, Act.put, List.setIfInBounds_toArray, List.set_cons_zero, List.set_cons_succ]
        simp only [c6]
        go_simp
        exact hK _ _ (Up.refl _) rfl
      · intro x w1 K hU hS hO hd hK
        have c7 : (x 7).v = _ := kval (hd 7 (by decide)).1 rfl
        clear hd
        refine Veil.mk ?_; simp only [kgoal, putsFrom, depsOf, pu0, pu1, pu2, pu3, Nat.zero_add, Nat.reduceAdd, Nat.reduceBEq, Bool.or_false, Bool.false_or, Bool.or_true, Bool.true_or, Bool.false_eq_true, ↓reduceIte, Act.put, List.setIfInBounds_toArray, List.set_cons_zero, List.set_cons_succ]
        simp only [c7]
        rw [if_neg (by intro h; cases h)]
        exact hK _ _ (Up.refl _) rfl
      · intro x w1 K hU hS hO hd hK
        have c7 : (x 7).v = _ := kval (hd 7 (by decide)).1 rfl
        have c8 : (x 8).v = _ := kval (hd 8 (by decide)).1 rfl
        clear hd
        refine Veil.mk ?_; simp only [kgoal, putsFrom, depsOf, pu0, pu1, pu2, pu3, Nat.zero_add, Nat.reduceAdd, Nat.reduceBEq, Bool.or_false, Bool.false_or, Bool.or_true, Bool.true_or, Bool.false_eq_true, ↓reduceIte, Act.put, List.setIfInBounds_toArray, List.set_cons_zero, List.set_cons_succ]
        simp only [c7, c8]
        rw [if_neg (by intro h; cases h)]
        exact hK _ _ (Up.refl _) rfl
      · intro x w1 K hU hS hO hd hK
        have c7 : (x 7).v = _ := kval (hd 7 (by decide)).1 rfl
        clear hd
        refine Veil.mk ?_; simp only [kgoal, putsFrom, depsOf, pu0, pu1, pu2, pu3, Nat.zero_add, Nat.reduceAdd, Nat.reduceBEq, Bool.or_false, Bool.false_or, Bool.or_true, Bool.true_or, Bool.false_eq_true, ↓reduceIte, Act.put, List.setIfInBounds_toArray, List.set_cons_zero, List.set_cons_succ]
        simp only [c7]
        rw [if_neg (by intro h; cases h)]
        exact hK _ _ (Up.refl _) rfl
      · intro x w1 K hU hS hO hd hK
        have c7 : (x 7).v = _ := kval (hd 7 (by decide)).1 rfl
        have c10 : (x 10).v = _ := kval (hd 10 (by decide)).1 rfl
        clear hd
        refine Veil.mk ?_; simp only [kgoal, putsFrom, depsOf, pu0, pu1, pu2, pu3, Nat.zero_add, Nat.reduceAdd, Nat.reduceBEq, Bool.or_false, Bool.false_or, Bool.or_true, Bool.true_or, Bool.false_eq_true, ↓reduceIte, Act.put, List.setIfInBounds_toArray, List.set_cons_zero, List.set_cons_succ]
        simp only [c7, c10]
        rw [if_neg (by intro h; cases h)]
        exact hK _ _ (Up.refl _) rfl
      · intro x w1 K hU hS hO hd hK
        have c7 : (x 7).v = _ := kval (hd 7 (by decide)).1 rfl
        have c11 : (x 11).v = _ := kval (hd 11 (by decide)).1 rfl
        clear hd
        refine Veil.mk ?_; simp only [kgoal, putsFrom, depsOf, pu0, pu1, pu2, pu3, Nat.zero_add, Nat.reduceAdd, Nat.reduceBEq, Bool.or_false, Bool.false_or, Bool.or_true, Bool.true_or, Bool.false_eq_true, ↓reduceIte, Act.put, List.setIfInBounds_toArray, List.set_cons_zero, List.set_cons_succ]
        simp only [c7, c11]
        rw [if_neg (by intro h; cases h)]
        exact hK _ _ (Up.refl _) rfl
      · intro x w1 K hU hS hO hd hK
        have c7 : (x 7).v = _ := kval (hd 7 (by decide)).1 rfl
        have c9 : (x 9).v = _ := kval (hd 9 (by decide)).1 rfl
        have c12 : (x 12).v = _ := kval (hd 12 (by decide)).1 rfl
        clear hd
        refine Veil.mk ?_; simp only [kgoal, putsFrom, depsOf, pu0, pu1, pu2, pu3, Nat.zero_add, Nat.reduceAdd, Nat.reduceBEq, Bool.or_false, Bool.false_or, Bool.or_true, Bool.true_or, Bool.false_eq_true, ↓reduceIte, Act.put, List.setIfInBounds_toArray, List.set_cons_zero, List.set_cons_succ]
        simp only [c7, c9, c12]
        rw [if_neg (by intro h; cases h)]
        exact hK _ _ (Up.refl _) rfl
      · intro x w1 K hU hS hO hd hK
        have c7 : (x 7).v = _ := kval (hd 7 (by decide)).1 rfl
        have c13 : (x 13).v = _ := kval (hd 13 (by decide)).1 rfl
        clear hd
        refine Veil.mk ?_; simp only [kgoal, putsFrom, depsOf, pu0, pu1, pu2, pu3, Nat.zero_add, Nat.reduceAdd, Nat.reduceBEq, Bool.or_false, Bool.false_or, Bool.or_true, Bool.true_or, Bool.false_eq_true, ↓reduceIte, Act.put, List.setIfInBounds_toArray, List.set_cons_zero, List.set_cons_succ]
        simp only [c7, c13]
        go_simp
        exact hK _ _ (Up.refl _) rfl
      intro x w1 hU hS hR hlo hdis
      have h14 : (x 14).v = .bool false := kval (hR 14 (by decide)) rfl
      have HC := hS.upb rfl
      have BC := Up.tr (up_drew _) HC
      have C1 := BC.blk T1
      have C2 := BC.blk T2
      have C3 := BC.blk T3
      have C7 := BC.blk TB.1
      have C8 := BC.blk TB.2
      have OQ := OQ0.keep (fun b _ hb => BC.block b (by have := UB.size; omega))
      have OR := OR0.keep (fun b _ hb => BC.block b (by have := UB.size; omega))
      have UC := hU
      refine Veil.mk ?_; simp only [kgoal, putsFrom, depsOf, pu0, pu1, pu2, pu3, Nat.zero_add, Nat.reduceAdd, Nat.reduceBEq, Bool.or_false, Bool.false_or, Bool.or_true, Bool.true_or, Bool.false_eq_true, ↓reduceIte, Act.put, List.setIfInBounds_toArray, List.set_cons_zero, List.set_cons_succ]
      rw [h14]
      generalize (x 0).v = y0 at *
      generalize (x 1).v = y1 at *
      generalize (x 2).v = y2 at *
      generalize (x 3).v = y3 at *
      generalize (x 4).v = y4 at *
      generalize (x 5).v = y5 at *
      generalize (x 6).v = y6 at *
      generalize (x 7).v = y7 at *
      generalize (x 8).v = y8 at *
      generalize (x 9).v = y9 at *
      generalize (x 10).v = y10 at *
      generalize (x 11).v = y11 at *
      generalize (x 12).v = y12 at *
      generalize (x 13).v = y13 at *
      clear hR hlo hdis hS HC BC h14 T1 T2 T3 TB OQ0 OR0 hU U5
      go_wp2_with fail
      refine wp_region_knd (by kernel_rfl) w UC [[], [], [], [0], [1], [2]] [.val [] (fun _ g _ => g.v = .agg #[.bool bq, .slice aoq mq capq]), .val [] (fun _ g _ => g.v = .agg #[.bool br, .slice aor 0 capr]), .val [] (fun _ g _ => g.v = .bool true), .old (w.heap.size + 1 + 1) 0 26 2, .old (w.heap.size + 1 + 1 + 1) 1 26 2, .val [2] (fun _ g vs => vs = [g.v])] (by kernel_rfl) (by kernel_rfl) rfl ⟨trivial, trivial, trivial, ⟨by omega, (Array.getElem?_eq_some_iff.1 C2).1, by simp [oldG]⟩, ⟨by omega, (Array.getElem?_eq_some_iff.1 C3).1, by simp [oldG]⟩, trivial, trivial⟩ ⟨fun _ _ _ _ _ h => h, fun _ _ _ _ _ h => h, fun _ _ _ _ _ h => h, trivial, trivial, fun _ _ _ _ _ h => h, trivial⟩ ⟨?_, ?_, ?_, ?_, ?_, ?_, trivial⟩ ?_
      · intro x w1 K hU hS hO hd hK
        obtain ⟨c0, c1, -⟩ := cells2 (hS.at C7 ⟨trivial, trivial, trivial, n72, n73, trivial, trivial⟩)
        refine Veil.mk ?_; simp only [kgoal, putsFrom, depsOf, pu0, pu1, pu2, pu3, Nat.zero_add, Nat.reduceAdd, Nat.reduceBEq, Bool.or_false, Bool.false_or, Bool.or_true, Bool.true_or, Bool.false_eq_true, ↓reduceIte, Act.put, List.setIfInBounds_toArray, List.set_cons_zero, List.set_cons_succ]
        go_simp
        exact hK _ _ (Up.refl _) rfl
      · intro x w1 K hU hS hO hd hK
        obtain ⟨c0, c1, -⟩ := cells2 (hS.at C8 ⟨trivial, trivial, trivial, n82, n83, trivial, trivial⟩)
        refine Veil.mk ?_; simp only [kgoal, putsFrom, depsOf, pu0, pu1, pu2, pu3, Nat.zero_add, Nat.reduceAdd, Nat.reduceBEq, Bool.or_false, Bool.false_or, Bool.or_true, Bool.true_or, Bool.false_eq_true, ↓reduceIte, Act.put, List.setIfInBounds_toArray, List.set_cons_zero, List.set_cons_succ]
        go_simp
        exact hK _ _ (Up.refl _) rfl
      · intro x w1 K hU hS hO hd hK
        refine Veil.mk ?_; simp only [kgoal, putsFrom, depsOf, pu0, pu1, pu2, pu3, Nat.zero_add, Nat.reduceAdd, Nat.reduceBEq, Bool.or_false, Bool.false_or, Bool.or_true, Bool.true_or, Bool.false_eq_true, ↓reduceIte, Act.put, List.setIfInBounds_toArray, List.set_cons_zero, List.set_cons_succ]
        go_simp
        exact hK _ _ (Up.refl _) rfl
      · intro x w1 K hU hS hO hd hK
        have es : (x 0).v = _ := kval (hd 0 (by decide)).1 rfl
        have tt := (hO 3 _ _ rfl rfl (.inl rfl)).trans C2
        obtain ⟨d0, d1, f0, f1, -⟩ := cells2 tt
        clear hd
        refine Veil.mk ?_; simp only [kgoal, putsFrom, depsOf, pu0, pu1, pu2, pu3, Nat.zero_add, Nat.reduceAdd, Nat.reduceBEq, Bool.or_false, Bool.false_or, Bool.or_true, Bool.true_or, Bool.false_eq_true, ↓reduceIte, Act.put, List.setIfInBounds_toArray, List.set_cons_zero, List.set_cons_succ]
        go_simp
        exact hK _ _ (sto_two tt _ _).1 ⟨_, rfl, es, (sto_two tt _ _).2⟩
      · intro x w1 K hU hS hO hd hK
        have es : (x 1).v = _ := kval (hd 1 (by decide)).1 rfl
        have tt := (hO 4 _ _ rfl rfl (.inl rfl)).trans C3
        obtain ⟨d0, d1, f0, f1, -⟩ := cells2 tt
        clear hd
        refine Veil.mk ?_; simp only [kgoal, putsFrom, depsOf, pu0, pu1, pu2, pu3, Nat.zero_add, Nat.reduceAdd, Nat.reduceBEq, Bool.or_false, Bool.false_or, Bool.or_true, Bool.true_or, Bool.false_eq_true, ↓reduceIte, Act.put, List.setIfInBounds_toArray, List.set_cons_zero, List.set_cons_succ]
        go_simp
        exact hK _ _ (sto_two tt _ _).1 ⟨_, rfl, es, (sto_two tt _ _).2⟩
      · intro x w1 K hU hS hO hd hK
        refine Veil.mk ?_; simp only [kgoal, putsFrom, depsOf, pu0, pu1, pu2, pu3, Nat.zero_add, Nat.reduceAdd, Nat.reduceBEq, Bool.or_false, Bool.false_or, Bool.or_true, Bool.true_or, Bool.false_eq_true, ↓reduceIte, Act.put, List.setIfInBounds_toArray, List.set_cons_zero, List.set_cons_succ]
        go_simp
        exact hK _ _ (Up.refl _) rfl
      intro x w1 hU hS hR hlo hdis
      obtain ⟨cs1, -, q1, t1⟩ := kold (hR 3 (by decide)) rfl
      obtain ⟨cs2, -, q2, t2⟩ := kold (hR 4 (by decide)) rfl
      have hokv : (x 5).v = .bool true := by have h2 : (x 2).v = _ := kval (hR 2 (by decide)) rfl; have h5 : [(x 2).v] = [(x 5).v] := kval (hR 5 (by decide)) rfl; rw [← h2]; exact (List.cons.inj h5).1.symm
      have eQ : (x 0).v = _ := kval (hR 0 (by decide)) rfl
      have eR : (x 1).v = _ := kval (hR 1 (by decide)) rfl
      have OQ' := (OQ.1.up (up_drew _)).since hS ⟨trivial, trivial, trivial, ⟨_, _, C2, by decide⟩, ⟨_, _, C3, by decide⟩, trivial, trivial⟩
      have OR' := (OR.1.up (up_drew _)).since hS ⟨trivial, trivial, trivial, ⟨_, _, C2, by decide⟩, ⟨_, _, C3, by decide⟩, trivial, trivial⟩
      rw [eQ] at q1
      cases q1
      rw [eR] at q2
      cases q2
      obtain ⟨d0, d1, -⟩ := cells2 t1
      obtain ⟨d2, d3, -⟩ := cells2 t2
      refine Veil.mk ?_; simp only [kgoal, putsFrom, depsOf, pu0, pu1, pu2, pu3, Nat.zero_add, Nat.reduceAdd, Nat.reduceBEq, Bool.or_false, Bool.false_or, Bool.or_true, Bool.true_or, Bool.false_eq_true, ↓reduceIte, Act.put, List.setIfInBounds_toArray, List.set_cons_zero, List.set_cons_succ]
      rw [hokv]
      clear hR hdis hS
      go_wp2_with fail
      refine bodyPost_ret (by simp [results, Tryd.results37, go_sem, d0, d1, d2, d3]; rfl) rfl ?_
      exact ⟨_, rfl, ⟨_, _, by rw [unhide HOK], ⟨bq, mq, fq, ⟨_, rfl, OwnIn.of (OQ'.mono (by omega))⟩, cq, by omega, (unhide HQ).1⟩, ⟨br, 0, fr, ⟨_, rfl, OwnIn.of (OR'.mono (by omega))⟩, cr, by omega, (unhide HQ).2⟩⟩, hU⟩
    · have hrp := num_pos cr.1 hr
      have hr0 : 0 < mr := by omega
      have hD : decide ((0 : Int) < (mr : Int)) = true := by simp; omega
      have hsg : Int.tmod X Y = sgn br (num 4294967296 fr mr) := by
        have := (unhide HS).2
        unfold rz at this
        rw [if_neg hY] at this
        exact this.symm
      by_cases hb : br = sy
      · have HTB := hide (show (br != sy) = false from by rw [hb]; cases sy <;> rfl)
        have HQ := hide (show sgn bq (num 4294967296 fq mq) = QF ∧ sgn br (num 4294967296 fr mr) = RF from by
          rw [(unhide HE).2.1, (unhide HE).2.2]
          obtain ⟨s1, s2⟩ := unhide HS
          have h3 := floor_same (X := X) hY (by
            have h4 := unhide HSY
            rw [hsg, hb]
            cases hc : sy <;> rw [hc] at h4
            · have : ¬ Y < 0 := by simpa using h4.symm
              exact .inl ⟨by omega, by simp only [sgn]; simp⟩
            · have : Y < 0 := by simpa using h4.symm
              exact .inr ⟨this, by simp only [sgn]; simp⟩)
          rw [s1, if_neg hY, h3.1, h3.2, hsg]
          exact ⟨rfl, rfl⟩)
        clear hok hY hb hsg hrp
        go_wp2_with fail
        refine wp_region_knd (by kernel_rfl) w U5 [[], [0], [1], [1, 2], [1, 3], [1, 4], [1, 5], [6], [7], [7, 8], [7], [7, 10], [7, 11], [7, 9, 12], [7, 13]] [.val [] (fun _ g _ => g.v = .bool true), .val [] (fun _ g _ => g.v = .bool true), .val [] (fun _ g _ => g.v = .pointer (some ⟨wa.heap.size + 1, 1, none⟩)), .val [] (fun _ g _ => g.v = .slice aor mr capr), .val [] (fun _ g _ => g.v = .int .i64 (mr : Int)), .val [] (fun _ g _ => g.v = .bool true), .val [] (fun _ g _ => g.v = .bool true), .val [] (fun _ g _ => g.v = .bool true), .val [] (fun _ g _ => g.v = .pointer (some ⟨wa.heap.size + 1, 0, none⟩)), .val [] (fun _ g _ => g.v = .bool br), .val [] (fun _ g _ => g.v = .agg #[.bool b1, .slice ao1 n1 cap1]), .val [] (fun w g _ => NumIn Y M w g.lo g.hi g.v), .val [] (fun _ g _ => g.v = .bool sy), .val [] (fun _ g _ => g.v = .bool (br != sy)), .val [] (fun _ g _ => g.v = .bool (br != sy))] (by kernel_rfl) (by kernel_rfl) rfl ⟨trivial, trivial, trivial, trivial, trivial, trivial, trivial, trivial, trivial, trivial, trivial, trivial, trivial, trivial, trivial, trivial⟩ ⟨fun _ _ _ _ _ h => h, fun _ _ _ _ _ h => h, fun _ _ _ _ _ h => h, fun _ _ _ _ _ h => h, fun _ _ _ _ _ h => h, fun _ _ _ _ _ h => h, fun _ _ _ _ _ h => h, fun _ _ _ _ _ h => h, fun _ _ _ _ _ h => h, fun _ _ _ _ _ h => h, fun _ _ _ _ _ h => h, fun _ _ _ _ hb h => h.keep hb, fun _ _ _ _ _ h => h, fun _ _ _ _ _ h => h, fun _ _ _ _ _ h => h, trivial⟩ ⟨?_, ?_, ?_, ?_, ?_, ?_, ?_, ?_, ?_, ?_, ?_, ?_, ?_, ?_, ?_, trivial⟩ ?_
        · intro x w1 K hU hS hO hd hK
          clear hd
          refine Veil.mk ?_; simp only [kgoal, putsFrom, depsOf, pu0, pu1, pu2, pu3, Nat.zero_add, Nat.reduceAdd, Nat.reduceBEq, Bool.or_false, Bool.false_or, Bool.or_true, Bool.true_or, Bool.false_eq_true, ↓reduceIte, Act.put, List.setIfInBounds_toArray, List.set_cons_zero, List.set_cons_succ]
          go_simp
          exact hK _ _ (Up.refl _) rfl
        · intro x w1 K hU hS hO hd hK
          have c0 : (x 0).v = _ := kval (hd 0 (by decide)).1 rfl
          clear hd
          refine Veil.mk ?_; simp only [kgoal, putsFrom, depsOf, pu0, pu1, pu2, pu3, Nat.zero_add, Nat.reduceAdd, Nat.reduceBEq, Bool.or_false, Bool.false_or, Bool.or_true, Bool.true_or, Bool.false_eq_true, ↓reduceIte, Act.put, List.setIfInBounds_toArray, List.set_cons_zero, List.set_cons_succ]
          simp only [c0]
          go_simp
          exact hK _ _ (Up.refl _) rfl
        · intro x w1 K hU hS hO hd hK
          have c1 : (x 1).v = _ := kval (hd 1 (by decide)).1 rfl
          clear hd
          refine Veil.mk ?_; simp only [kgoal, putsFrom, depsOf, pu0, pu1, pu2, pu3, Nat.zero_add, Nat.reduceAdd, Nat.reduceBEq, Bool.or_false, Bool.false_or, Bool.or_true, Bool.true_or, Bool.false_eq_true, ↓reduceIte, Act.put, List.setIfInBounds_toArray, List.set_cons_zero, List.set_cons_succ]
          simp only [c1]
          rw [if_pos (by rfl)]
          go_simp
          exact hK _ _ (Up.refl _) rfl
        · intro x w1 K hU hS hO hd hK
          have c1 : (x 1).v = _ := kval (hd 1 (by decide)).1 rfl
          have c2 : (x 2).v = _ := kval (hd 2 (by decide)).1 rfl
          obtain ⟨k0, k1, -⟩ := cells2 ((Up.tr (up_drew _) (hS.upb rfl)).blk TB.2)
          clear hd
          refine Veil.mk ?_; simp only [kgoal, putsFrom, depsOf, pu0, pu1, pu2, pu3, Nat.zero_add, Nat.reduceAdd, Nat.reduceBEq, Bool.or_false, Bool.false_or, Bool.or_true, Bool.true_or, Bool.false_eq_true, ↓reduceIte, Act.put, List.setIfInBounds_toArray, List.set_cons_zero, List.set_cons_succ]
          simp only [c1, c2]
          rw [if_pos (by rfl)]
          go_simp
          exact hK _ _ (Up.refl _) rfl
        · intro x w1 K hU hS hO hd hK
          have c1 : (x 1).v = _ := kval (hd 1 (by decide)).1 rfl
          have c3 : (x 3).v = _ := kval (hd 3 (by decide)).1 rfl
          clear hd
          refine Veil.mk ?_; simp only [kgoal, putsFrom, depsOf, pu0, pu1, pu2, pu3, Nat.zero_add, Nat.reduceAdd, Nat.reduceBEq, Bool.or_false, Bool.false_or, Bool.or_true, Bool.true_or, Bool.false_eq_true, ↓reduceIte, Act.put, List.setIfInBounds_toArray, List.set_cons_zero, List.set_cons_succ]
          simp only [c1, c3]
          rw [if_pos (by rfl)]
          go_simp
          exact hK _ _ (Up.refl _) rfl
        · intro x w1 K hU hS hO hd hK
          have c1 : (x 1).v = _ := kval (hd 1 (by decide)).1 rfl
          have c4 : (x 4).v = _ := kval (hd 4 (by decide)).1 rfl
          clear hd
          refine Veil.mk ?_; simp only [kgoal, putsFrom, depsOf, pu0, pu1, pu2, pu3, Nat.zero_add, Nat.reduceAdd, Nat.reduceBEq, Bool.or_false, Bool.false_or, Bool.or_true, Bool.true_or, Bool.false_eq_true, ↓reduceIte, Act.put, List.setIfInBounds_toArray, List.set_cons_zero, List.set_cons_succ]
          simp only [c1, c4]
          rw [if_pos (by rfl)]
          go_simp
          exact hK _ _ (Up.refl _) rfl
        · intro x w1 K hU hS hO hd hK
          have c1 : (x 1).v = _ := kval (hd 1 (by decide)).1 rfl
          have c5 : (x 5).v = _ := kval (hd 5 (by decide)).1 rfl
          clear hd
          refine Veil.mk ?_; simp only [kgoal, putsFrom, depsOf, pu0, pu1, pu2, pu3, Nat.zero_add, Nat.reduceAdd, Nat.reduceBEq, Bool.or_false, Bool.false_or, Bool.or_true, Bool.true_or, Bool.false_eq_true, ↓reduceIte, Act.put, List.setIfInBounds_toArray, List.set_cons_zero, List.set_cons_succ]
          simp only [c1, c5]
          go_simp
          exact hK _ _ (Up.refl _) rfl
        · intro x w1 K hU hS hO hd hK
          have c6 : (x 6).v = _ := kval (hd 6 (by decide)).1 rfl
          clear hd
          refine Veil.mk ?_; simp only [kgoal, putsFrom, depsOf, pu0, pu1, pu2, pu3, Nat.zero_add, Nat.reduceAdd, Nat.reduceBEq, Bool.or_false, Bool.false_or, Bool.or_true, Bool.true_or, Bool.false_eq_true, ↓reduceIte, Act.put, List.setIfInBounds_toArray, List.set_cons_zero, List.set_cons_succ]
          simp only [c6]
          go_simp
          exact hK _ _ (Up.refl _) rfl
        · intro x w1 K hU hS hO hd hK
          have c7 : (x 7).v = _ := kval (hd 7 (by decide)).1 rfl
          clear hd
          refine Veil.mk ?_; simp only [kgoal, putsFrom, depsOf, pu0, pu1, pu2, pu3, Nat.zero_add, Nat.reduceAdd, Nat.reduceBEq, Bool.or_false, Bool.false_or, Bool.or_true, Bool.true_or, Bool.false_eq_true, ↓reduceIte, Act.put, List.setIfInBounds_toArray, List.set_cons_zero, List.set_cons_succ]
          simp only [c7]
          rw [if_pos (by rfl)]
          go_simp
          exact hK _ _ (Up.refl _) rfl
        · intro x w1 K hU hS hO hd hK
          have c7 : (x 7).v = _ := kval (hd 7 (by decide)).1 rfl
          have c8 : (x 8).v = _ := kval (hd 8 (by decide)).1 rfl
          obtain ⟨k0, k1, -⟩ := cells2 ((Up.tr (up_drew _) (hS.upb rfl)).blk TB.2)
          clear hd
          refine Veil.mk ?_; simp only [kgoal, putsFrom, depsOf, pu0, pu1, pu2, pu3, Nat.zero_add, Nat.reduceAdd, Nat.reduceBEq, Bool.or_false, Bool.false_or, Bool.or_true, Bool.true_or, Bool.false_eq_true, ↓reduceIte, Act.put, List.setIfInBounds_toArray, List.set_cons_zero, List.set_cons_succ]
          simp only [c7, c8]
          rw [if_pos (by rfl)]
          go_simp
          exact hK _ _ (Up.refl _) rfl
        · intro x w1 K hU hS hO hd hK
          have c7 : (x 7).v = _ := kval (hd 7 (by decide)).1 rfl
          obtain ⟨k0, k1, -⟩ := cells2 ((Up.tr (up_drew _) (hS.upb rfl)).blk T1)
          clear hd
          refine Veil.mk ?_; simp only [kgoal, putsFrom, depsOf, pu0, pu1, pu2, pu3, Nat.zero_add, Nat.reduceAdd, Nat.reduceBEq, Bool.or_false, Bool.false_or, Bool.or_true, Bool.true_or, Bool.false_eq_true, ↓reduceIte, Act.put, List.setIfInBounds_toArray, List.set_cons_zero, List.set_cons_succ]
          simp only [c7]
          rw [if_pos (by rfl)]
          go_simp
          exact hK _ _ (Up.refl _) rfl
        · intro x w1 K hU hS hO hd hK
          have c7 : (x 7).v = _ := kval (hd 7 (by decide)).1 rfl
          have c10 : (x 10).v = _ := kval (hd 10 (by decide)).1 rfl
          clear hd
          refine Veil.mk ?_; simp only [kgoal, putsFrom, depsOf, pu0, pu1, pu2, pu3, Nat.zero_add, Nat.reduceAdd, Nat.reduceBEq, Bool.or_false, Bool.false_or, Bool.or_true, Bool.true_or, Bool.false_eq_true, ↓reduceIte, Act.put, List.setIfInBounds_toArray, List.set_cons_zero, List.set_cons_succ]
          simp only [c7, c10]
          rw [if_pos (by rfl)]
          go_simp
          refine (r2canon_rd ((unhide HU).up hU) (by omega)).mono ?_
          rintro e w2 ⟨v2, rfl, n2, u2⟩
          exact hK _ _ u2 n2
        · intro x w1 K hU hS hO hd hK
          have c7 : (x 7).v = _ := kval (hd 7 (by decide)).1 rfl
          have h11 : NumIn Y M w1 (x 11).lo (x 11).hi (x 11).v := kval (hd 11 (by decide)).1 rfl
          obtain ⟨e11, q11, hsg⟩ := canon_sign h11 (unhide HSY)
          clear hd
          refine Veil.mk ?_; simp only [kgoal, putsFrom, depsOf, pu0, pu1, pu2, pu3, Nat.zero_add, Nat.reduceAdd, Nat.reduceBEq, Bool.or_false, Bool.false_or, Bool.or_true, Bool.true_or, Bool.false_eq_true, ↓reduceIte, Act.put, List.setIfInBounds_toArray, List.set_cons_zero, List.set_cons_succ]
          simp only [c7, hsg]
          rw [if_pos (by rfl)]
          go_simp
          exact hK _ _ (Up.refl _) rfl
        · intro x w1 K hU hS hO hd hK
          have c7 : (x 7).v = _ := kval (hd 7 (by decide)).1 rfl
          have c9 : (x 9).v = _ := kval (hd 9 (by decide)).1 rfl
          have c12 : (x 12).v = _ := kval (hd 12 (by decide)).1 rfl
          clear hd
          refine Veil.mk ?_; simp only [kgoal, putsFrom, depsOf, pu0, pu1, pu2, pu3, Nat.zero_add, Nat.reduceAdd, Nat.reduceBEq, Bool.or_false, Bool.false_or, Bool.or_true, Bool.true_or, Bool.false_eq_true, ↓reduceIte, Act.put, List.setIfInBounds_toArray, List.set_cons_zero, List.set_cons_succ]
          simp only [c7, c9, c12]
          rw [if_pos (by rfl)]
          go_simp
          exact hK _ _ (Up.refl _) (by cases br <;> cases sy <;> rfl)
        · intro x w1 K hU hS hO hd hK
          have c7 : (x 7).v = _ := kval (hd 7 (by decide)).1 rfl
          have c13 : (x 13).v = _ := kval (hd 13 (by decide)).1 rfl
          clear hd
          refine Veil.mk ?_; simp only [kgoal, putsFrom, depsOf, pu0, pu1, pu2, pu3, Nat.zero_add, Nat.reduceAdd, Nat.reduceBEq, Bool.or_false, Bool.false_or, Bool.or_true, Bool.true_or, Bool.false_eq_true, ↓reduceIte, Act.put, List.setIfInBounds_toArray, List.set_cons_zero, List.set_cons_succ]
          simp only [c7, c13]
          go_simp
          exact hK _ _ (Up.refl _) rfl
        intro x w1 hU hS hR hlo hdis
        have h14 : (x 14).v = .bool false := by rw [← unhide HTB]; exact kval (hR 14 (by decide)) rfl
        have HC := hS.upb rfl
        have BC := Up.tr (up_drew _) HC
        have C1 := BC.blk T1
        have C2 := BC.blk T2
        have C3 := BC.blk T3
        have C7 := BC.blk TB.1
        have C8 := BC.blk TB.2
        have OQ := OQ0.keep (fun b _ hb => BC.block b (by have := UB.size; omega))
        have OR := OR0.keep (fun b _ hb => BC.block b (by have := UB.size; omega))
        have UC := hU
        refine Veil.mk ?_; simp only [kgoal, putsFrom, depsOf, pu0, pu1, pu2, pu3, Nat.zero_add, Nat.reduceAdd, Nat.reduceBEq, Bool.or_false, Bool.false_or, Bool.or_true, Bool.true_or, Bool.false_eq_true, ↓reduceIte, Act.put, List.setIfInBounds_toArray, List.set_cons_zero, List.set_cons_succ]
        rw [h14]
        generalize (x 0).v = y0 at *
        generalize (x 1).v = y1 at *
        generalize (x 2).v = y2 at *
        generalize (x 3).v = y3 at *
        generalize (x 4).v = y4 at *
        generalize (x 5).v = y5 at *
        generalize (x 6).v = y6 at *
        generalize (x 7).v = y7 at *
        generalize (x 8).v = y8 at *
        generalize (x 9).v = y9 at *
        generalize (x 10).v = y10 at *
        generalize (x 11).v = y11 at *
        generalize (x 12).v = y12 at *
        generalize (x 13).v = y13 at *
        clear hR hlo hdis hS HC BC h14 T1 T2 T3 TB OQ0 OR0 hU U5
        go_wp2_with fail
        refine wp_region_knd (by kernel_rfl) w UC [[], [], [], [0], [1], [2]] [.val [] (fun _ g _ => g.v = .agg #[.bool bq, .slice aoq mq capq]), .val [] (fun _ g _ => g.v = .agg #[.bool br, .slice aor mr capr]), .val [] (fun _ g _ => g.v = .bool true), .old (w.heap.size + 1 + 1) 0 26 2, .old (w.heap.size + 1 + 1 + 1) 1 26 2, .val [2] (fun _ g vs => vs = [g.v])] (by kernel_rfl) (by kernel_rfl) rfl ⟨trivial, trivial, trivial, ⟨by omega, (Array.getElem?_eq_some_iff.1 C2).1, by simp [oldG]⟩, ⟨by omega, (Array.getElem?_eq_some_iff.1 C3).1, by simp [oldG]⟩, trivial, trivial⟩ ⟨fun _ _ _ _ _ h => h, fun _ _ _ _ _ h => h, fun _ _ _ _ _ h => h, trivial, trivial, fun _ _ _ _ _ h => h, trivial⟩ ⟨?_, ?_, ?_, ?_, ?_, ?_, trivial⟩ ?_
        · intro x w1 K hU hS hO hd hK
          obtain ⟨c0, c1, -⟩ := cells2 (hS.at C7 ⟨trivial, trivial, trivial, n72, n73, trivial, trivial⟩)
          refine Veil.mk ?_; simp only [kgoal, putsFrom, depsOf, pu0, pu1, pu2, pu3, Nat.zero_add, Nat.reduceAdd, Nat.reduceBEq, Bool.or_false, Bool.false_or, Bool.or_true, Bool.true_or, Bool.false_eq_true, ↓reduceIte, Act.put, List.setIfInBounds_toArray, List.set_cons_zero, List.set_cons_succ]
          go_simp
          exact hK _ _ (Up.refl _) rfl
        · intro x w1 K hU hS hO hd hK
          obtain ⟨c0, c1, -⟩ := cells2 (hS.at C8 ⟨trivial, trivial, trivial, n82, n83, trivial, trivial⟩)
          refine Veil.mk ?_; simp only [kgoal, putsFrom, depsOf, pu0, pu1, pu2, pu3, Nat.zero_add, Nat.reduceAdd, Nat.reduceBEq, Bool.or_false, Bool.false_or, Bool.or_true, Bool.true_or, Bool.false_eq_true, ↓reduceIte, Act.put, List.setIfInBounds_toArray, List.set_cons_zero, List.set_cons_succ]
          go_simp
          exact hK _ _ (Up.refl _) rfl
        · intro x w1 K hU hS hO hd hK
          refine Veil.mk ?_; simp only [kgoal, putsFrom, depsOf, pu0, pu1, pu2, pu3, Nat.zero_add, Nat.reduceAdd, Nat.reduceBEq, Bool.or_false, Bool.false_or, Bool.or_true, Bool.true_or, Bool.false_eq_true, ↓reduceIte, Act.put, List.setIfInBounds_toArray, List.set_cons_zero, List.set_cons_succ]
          go_simp
          exact hK _ _ (Up.refl _) rfl
        · intro x w1 K hU hS hO hd hK
          have es : (x 0).v = _ := kval (hd 0 (by decide)).1 rfl
          have tt := (hO 3 _ _ rfl rfl (.inl rfl)).trans C2
          obtain ⟨d0, d1, f0, f1, -⟩ := cells2 tt
          clear hd
          refine Veil.mk ?_; simp only [kgoal, putsFrom, depsOf, pu0, pu1, pu2, pu3, Nat.zero_add, Nat.reduceAdd, Nat.reduceBEq, Bool.or_false, Bool.false_or, Bool.or_true, Bool.true_or, Bool.false_eq_true, ↓reduceIte, Act.put, List.setIfInBounds_toArray, List.set_cons_zero, List.set_cons_succ]
          go_simp
          exact hK _ _ (sto_two tt _ _).1 ⟨_, rfl, es, (sto_two tt _ _).2⟩
        · intro x w1 K hU hS hO hd hK
          have es : (x 1).v = _ := kval (hd 1 (by decide)).1 rfl
          have tt := (hO 4 _ _ rfl rfl (.inl rfl)).trans C3
          obtain ⟨d0, d1, f0, f1, -⟩ := cells2 tt
          clear hd
          refine Veil.mk ?_; simp only [kgoal, putsFrom, depsOf, pu0, pu1, pu2, pu3, Nat.zero_add, Nat.reduceAdd, Nat.reduceBEq, Bool.or_false, Bool.false_or, Bool.or_true, Bool.true_or, Bool.false_eq_true, ↓reduceIte, Act.put, List.setIfInBounds_toArray, List.set_cons_zero, List.set_cons_succ]
          go_simp
          exact hK _ _ (sto_two tt _ _).1 ⟨_, rfl, es, (sto_two tt _ _).2⟩
        · intro x w1 K hU hS hO hd hK
          refine Veil.mk ?_; simp only [kgoal, putsFrom, depsOf, pu0, pu1, pu2, pu3, Nat.zero_add, Nat.reduceAdd, Nat.reduceBEq, Bool.or_false, Bool.false_or, Bool.or_true, Bool.true_or, Bool.false_eq_true, ↓reduceIte, Act.put, List.setIfInBounds_toArray, List.set_cons_zero, List.set_cons_succ]
          go_simp
          exact hK _ _ (Up.refl _) rfl
        intro x w1 hU hS hR hlo hdis
        obtain ⟨cs1, -, q1, t1⟩ := kold (hR 3 (by decide)) rfl
        obtain ⟨cs2, -, q2, t2⟩ := kold (hR 4 (by decide)) rfl
        have hokv : (x 5).v = .bool true := by have h2 : (x 2).v = _ := kval (hR 2 (by decide)) rfl; have h5 : [(x 2).v] = [(x 5).v] := kval (hR 5 (by decide)) rfl; rw [← h2]; exact (List.cons.inj h5).1.symm
        have eQ : (x 0).v = _ := kval (hR 0 (by decide)) rfl
        have eR : (x 1).v = _ := kval (hR 1 (by decide)) rfl
        have OQ' := (OQ.1.up (up_drew _)).since hS ⟨trivial, trivial, trivial, ⟨_, _, C2, by decide⟩, ⟨_, _, C3, by decide⟩, trivial, trivial⟩
        have OR' := (OR.1.up (up_drew _)).since hS ⟨trivial, trivial, trivial, ⟨_, _, C2, by decide⟩, ⟨_, _, C3, by decide⟩, trivial, trivial⟩
        rw [eQ] at q1
        cases q1
        rw [eR] at q2
        cases q2
        obtain ⟨d0, d1, -⟩ := cells2 t1
        obtain ⟨d2, d3, -⟩ := cells2 t2
        refine Veil.mk ?_; simp only [kgoal, putsFrom, depsOf, pu0, pu1, pu2, pu3, Nat.zero_add, Nat.reduceAdd, Nat.reduceBEq, Bool.or_false, Bool.false_or, Bool.or_true, Bool.true_or, Bool.false_eq_true, ↓reduceIte, Act.put, List.setIfInBounds_toArray, List.set_cons_zero, List.set_cons_succ]
        rw [hokv]
        clear hR hdis hS
        go_wp2_with fail
        refine bodyPost_ret (by simp [results, Tryd.results37, go_sem, d0, d1, d2, d3]; rfl) rfl ?_
        exact ⟨_, rfl, ⟨_, _, by rw [unhide HOK], ⟨bq, mq, fq, ⟨_, rfl, OwnIn.of (OQ'.mono (by omega))⟩, cq, by omega, (unhide HQ).1⟩, ⟨br, mr, fr, ⟨_, rfl, OwnIn.of (OR'.mono (by omega))⟩, cr, by omega, (unhide HQ).2⟩⟩, hU⟩
      · have HTB := hide (show (br != sy) = true from by cases br <;> cases sy <;> simp_all)
        have HF := hide (show Int.tdiv X Y + -1 = QF ∧ rz X Y + Y = RF from by
          rw [(unhide HE).2.1, (unhide HE).2.2]
          have h3 := floor_turn (X := X) hY (by
            have h4 := unhide HSY
            rw [hsg]
            cases hc : sy <;> rw [hc] at h4 hb
            · have : ¬ Y < 0 := by simpa using h4.symm
              have hbt : br = true := by
                cases hbr : br
                · exact absurd hbr hb
                · rfl
              rw [hbt]
              exact .inl ⟨by omega, by simp only [sgn]; simp; omega⟩
            · have : Y < 0 := by simpa using h4.symm
              have hbt : br = false := by
                cases hbr : br
                · rfl
                · exact absurd hbr hb
              rw [hbt]
              exact .inr ⟨this, by simp only [sgn]; simp; omega⟩)
          unfold rz
          rw [if_neg hY, if_neg hY, h3.1, h3.2]
          exact ⟨by omega, rfl⟩)
        clear hok hY hb hsg hrp
        go_wp2_with fail
        refine wp_region_knd (by kernel_rfl) w U5 [[], [0], [1], [1, 2], [1, 3], [1, 4], [1, 5], [6], [7], [7, 8], [7], [7, 10], [7, 11], [7, 9, 12], [7, 13]] [.val [] (fun _ g _ => g.v = .bool true), .val [] (fun _ g _ => g.v = .bool true), .val [] (fun _ g _ => g.v = .pointer (some ⟨wa.heap.size + 1, 1, none⟩)), .val [] (fun _ g _ => g.v = .slice aor mr capr), .val [] (fun _ g _ => g.v = .int .i64 (mr : Int)), .val [] (fun _ g _ => g.v = .bool true), .val [] (fun _ g _ => g.v = .bool true), .val [] (fun _ g _ => g.v = .bool true), .val [] (fun _ g _ => g.v = .pointer (some ⟨wa.heap.size + 1, 0, none⟩)), .val [] (fun _ g _ => g.v = .bool br), .val [] (fun _ g _ => g.v = .agg #[.bool b1, .slice ao1 n1 cap1]), .val [] (fun w g _ => NumIn Y M w g.lo g.hi g.v), .val [] (fun _ g _ => g.v = .bool sy), .val [] (fun _ g _ => g.v = .bool (br != sy)), .val [] (fun _ g _ => g.v = .bool (br != sy))] (by kernel_rfl) (by kernel_rfl) rfl ⟨trivial, trivial, trivial, trivial, trivial, trivial, trivial, trivial, trivial, trivial, trivial, trivial, trivial, trivial, trivial, trivial⟩ ⟨fun _ _ _ _ _ h => h, fun _ _ _ _ _ h => h, fun _ _ _ _ _ h => h, fun _ _ _ _ _ h => h, fun _ _ _ _ _ h => h, fun _ _ _ _ _ h => h, fun _ _ _ _ _ h => h, fun _ _ _ _ _ h => h, fun _ _ _ _ _ h => h, fun _ _ _ _ _ h => h, fun _ _ _ _ _ h => h, fun _ _ _ _ hb h => h.keep hb, fun _ _ _ _ _ h => h, fun _ _ _ _ _ h => h, fun _ _ _ _ _ h => h, trivial⟩ ⟨?_, ?_, ?_, ?_, ?_, ?_, ?_, ?_, ?_, ?_, ?_, ?_, ?_, ?_, ?_, trivial⟩ ?_
        · intro x w1 K hU hS hO hd hK
          clear hd
          refine Veil.mk ?_; simp only [kgoal, putsFrom, depsOf, pu0, pu1, pu2, pu3, Nat.zero_add, Nat.reduceAdd, Nat.reduceBEq, Bool.or_false, Bool.false_or, Bool.or_true, Bool.true_or, Bool.false_eq_true, ↓reduceIte, Act.put, List.setIfInBounds_toArray, List.set_cons_zero, List.set_cons_succ]
          go_simp
          exact hK _ _ (Up.refl _) rfl
        · intro x w1 K hU hS hO hd hK
          have c0 : (x 0).v = _ := kval (hd 0 (by decide)).1 rfl
          clear hd
          refine Veil.mk ?_; simp only [kgoal, putsFrom, depsOf, pu0, pu1, pu2, pu3, Nat.zero_add, Nat.reduceAdd, Nat.reduceBEq, Bool.or_false, Bool.false_or, Bool.or_true, Bool.true_or, Bool.false_eq_true, ↓reduceIte, Act.put, List.setIfInBounds_toArray, List.set_cons_zero, List.set_cons_succ]
          simp only [c0]
          go_simp
          exact hK _ _ (Up.refl _) rfl
        · intro x w1 K hU hS hO hd hK
          have c1 : (x 1).v = _ := kval (hd 1 (by decide)).1 rfl
          clear hd
          refine Veil.mk ?_; simp only [kgoal, putsFrom, depsOf, pu0, pu1, pu2, pu3, Nat.zero_add, Nat.reduceAdd, Nat.reduceBEq, Bool.or_false, Bool.false_or, Bool.or_true, Bool.true_or, Bool.false_eq_true, ↓reduceIte, Act.put, List.setIfInBounds_toArray, List.set_cons_zero, List.set_cons_succ]
          simp only [c1]
          rw [if_pos (by rfl)]
          go_simp
          exact hK _ _ (Up.refl _) rfl
        · intro x w1 K hU hS hO hd hK
          have c1 : (x 1).v = _ := kval (hd 1 (by decide)).1 rfl
          have c2 : (x 2).v = _ := kval (hd 2 (by decide)).1 rfl
          obtain ⟨k0, k1, -⟩ := cells2 ((Up.tr (up_drew _) (hS.upb rfl)).blk TB.2)
          clear hd
          refine Veil.mk ?_; simp only [kgoal, putsFrom, depsOf, pu0, pu1, pu2, pu3, Nat.zero_add, Nat.reduceAdd, Nat.reduceBEq, Bool.or_false, Bool.false_or, Bool.or_true, Bool.true_or, Bool.false_eq_true, ↓reduceIte, Act.put, List.setIfInBounds_toArray, List.set_cons_zero, List.set_cons_succ]
          simp only [c1, c2]
          rw [if_pos (by rfl)]
          go_simp
          exact hK _ _ (Up.refl _) rfl
        · intro x w1 K hU hS hO hd hK
          have c1 : (x 1).v = _ := kval (hd 1 (by decide)).1 rfl
          have c3 : (x 3).v = _ := kval (hd 3 (by decide)).1 rfl
          clear hd
          refine Veil.mk ?_; simp only [kgoal, putsFrom, depsOf, pu0, pu1, pu2, pu3, Nat.zero_add, Nat.reduceAdd, Nat.reduceBEq, Bool.or_false, Bool.false_or, Bool.or_true, Bool.true_or, Bool.false_eq_true, ↓reduceIte, Act.put, List.setIfInBounds_toArray, List.set_cons_zero, List.set_cons_succ]
          simp only [c1, c3]
          rw [if_pos (by rfl)]
          go_simp
          exact hK _ _ (Up.refl _) rfl
        · intro x w1 K hU hS hO hd hK
          have c1 : (x 1).v = _ := kval (hd 1 (by decide)).1 rfl
          have c4 : (x 4).v = _ := kval (hd 4 (by decide)).1 rfl
          clear hd
          refine Veil.mk ?_; simp only [kgoal, putsFrom, depsOf, pu0, pu1, pu2, pu3, Nat.zero_add, Nat.reduceAdd, Nat.reduceBEq, Bool.or_false, Bool.false_or, Bool.or_true, Bool.true_or, Bool.false_eq_true, ↓reduceIte, Act.put, List.setIfInBounds_toArray, List.set_cons_zero, List.set_cons_succ]
          simp only [c1, c4]
          rw [if_pos (by rfl)]
          go_simp
          exact hK _ _ (Up.refl _) rfl
        · intro x w1 K hU hS hO hd hK
          have c1 : (x 1).v = _ := kval (hd 1 (by decide)).1 rfl
          have c5 : (x 5).v = _ := kval (hd 5 (by decide)).1 rfl
          clear hd
          refine Veil.mk ?_; simp only [kgoal, putsFrom, depsOf, pu0, pu1, pu2, pu3, Nat.zero_add, Nat.reduceAdd, Nat.reduceBEq, Bool.or_false, Bool.false_or, Bool.or_true, Bool.true_or, Bool.false_eq_true, ↓reduceIte, Act.put, List.setIfInBounds_toArray, List.set_cons_zero, List.set_cons_succ]
          simp only [c1, c5]
          go_simp
          exact hK _ _ (Up.refl _) rfl
        · intro x w1 K hU hS hO hd hK
          have c6 : (x 6).v = _ := kval (hd 6 (by decide)).1 rfl
          clear hd
          refine Veil.mk ?_; simp only [kgoal, putsFrom, depsOf, pu0, pu1, pu2, pu3, Nat.zero_add, Nat.reduceAdd, Nat.reduceBEq, Bool.or_false, Bool.false_or, Bool.or_true, Bool.true_or, Bool.false_eq_true, ↓reduceIte, Act.put, List.setIfInBounds_toArray, List.set_cons_zero, List.set_cons_succ]
          simp only [c6]
          go_simp
          exact hK _ _ (Up.refl _) rfl
        · intro x w1 K hU hS hO hd hK
          have c7 : (x 7).v = _ := kval (hd 7 (by decide)).1 rfl
          clear hd
          refine Veil.mk ?_; simp only [kgoal, putsFrom, depsOf, pu0, pu1, pu2, pu3, Nat.zero_add, Nat.reduceAdd, Nat.reduceBEq, Bool.or_false, Bool.false_or, Bool.or_true, Bool.true_or, Bool.false_eq_true, ↓reduceIte, Act.put, List.setIfInBounds_toArray, List.set_cons_zero, List.set_cons_succ]
          simp only [c7]
          rw [if_pos (by rfl)]
          go_simp
          exact hK _ _ (Up.refl _) rfl
        · intro x w1 K hU hS hO hd hK
          have c7 : (x 7).v = _ := kval (hd 7 (by decide)).1 rfl
          have c8 : (x 8).v = _ := kval (hd 8 (by decide)).1 rfl
          obtain ⟨k0, k1, -⟩ := cells2 ((Up.tr (up_drew _) (hS.upb rfl)).blk TB.2)
          clear hd
          refine Veil.mk ?_; simp only [kgoal, putsFrom, depsOf, pu0, pu1, pu2, pu3, Nat.zero_add, Nat.reduceAdd, Nat.reduceBEq, Bool.or_false, Bool.false_or, Bool.or_true, Bool.true_or, Bool.false_eq_true, ↓reduceIte, Act.put, List.setIfInBounds_toArray, List.set_cons_zero, List.set_cons_succ]
          simp only [c7, c8]
          rw [if_pos (by rfl)]
          go_simp
          exact hK _ _ (Up.refl _) rfl
        · intro x w1 K hU hS hO hd hK
          have c7 : (x 7).v = _ := kval (hd 7 (by decide)).1 rfl
          obtain ⟨k0, k1, -⟩ := cells2 ((Up.tr (up_drew _) (hS.upb rfl)).blk T1)
          clear hd
          refine Veil.mk ?_; simp only [kgoal, putsFrom, depsOf, pu0, pu1, pu2, pu3, Nat.zero_add, Nat.reduceAdd, Nat.reduceBEq, Bool.or_false, Bool.false_or, Bool.or_true, Bool.true_or, Bool.false_eq_true, ↓reduceIte, Act.put, List.setIfInBounds_toArray, List.set_cons_zero, List.set_cons_succ]
          simp only [c7]
          rw [if_pos (by rfl)]
          go_simp
          exact hK _ _ (Up.refl _) rfl
        · intro x w1 K hU hS hO hd hK
          have c7 : (x 7).v = _ := kval (hd 7 (by decide)).1 rfl
          have c10 : (x 10).v = _ := kval (hd 10 (by decide)).1 rfl
          clear hd
          refine Veil.mk ?_; simp only [kgoal, putsFrom, depsOf, pu0, pu1, pu2, pu3, Nat.zero_add, Nat.reduceAdd, Nat.reduceBEq, Bool.or_false, Bool.false_or, Bool.or_true, Bool.true_or, Bool.false_eq_true, ↓reduceIte, Act.put, List.setIfInBounds_toArray, List.set_cons_zero, List.set_cons_succ]
          simp only [c7, c10]
          rw [if_pos (by rfl)]
          go_simp
          refine (r2canon_rd ((unhide HU).up hU) (by omega)).mono ?_
          rintro e w2 ⟨v2, rfl, n2, u2⟩
          exact hK _ _ u2 n2
        · intro x w1 K hU hS hO hd hK
          have c7 : (x 7).v = _ := kval (hd 7 (by decide)).1 rfl
          have h11 : NumIn Y M w1 (x 11).lo (x 11).hi (x 11).v := kval (hd 11 (by decide)).1 rfl
          obtain ⟨e11, q11, hsg⟩ := canon_sign h11 (unhide HSY)
          clear hd
          refine Veil.mk ?_; simp only [kgoal, putsFrom, depsOf, pu0, pu1, pu2, pu3, Nat.zero_add, Nat.reduceAdd, Nat.reduceBEq, Bool.or_false, Bool.false_or, Bool.or_true, Bool.true_or, Bool.false_eq_true, ↓reduceIte, Act.put, List.setIfInBounds_toArray, List.set_cons_zero, List.set_cons_succ]
          simp only [c7, hsg]
          rw [if_pos (by rfl)]
          go_simp
          exact hK _ _ (Up.refl _) rfl
        · intro x w1 K hU hS hO hd hK
          have c7 : (x 7).v = _ := kval (hd 7 (by decide)).1 rfl
          have c9 : (x 9).v = _ := kval (hd 9 (by decide)).1 rfl
          have c12 : (x 12).v = _ := kval (hd 12 (by decide)).1 rfl
          clear hd
          refine Veil.mk ?_; simp only [kgoal, putsFrom, depsOf, pu0, pu1, pu2, pu3, Nat.zero_add, Nat.reduceAdd, Nat.reduceBEq, Bool.or_false, Bool.false_or, Bool.or_true, Bool.true_or, Bool.false_eq_true, ↓reduceIte, Act.put, List.setIfInBounds_toArray, List.set_cons_zero, List.set_cons_succ]
          simp only [c7, c9, c12]
          rw [if_pos (by rfl)]
          go_simp
          exact hK _ _ (Up.refl _) (by cases br <;> cases sy <;> rfl)
        · intro x w1 K hU hS hO hd hK
          have c7 : (x 7).v = _ := kval (hd 7 (by decide)).1 rfl
          have c13 : (x 13).v = _ := kval (hd 13 (by decide)).1 rfl
          clear hd
          refine Veil.mk ?_; simp only [kgoal, putsFrom, depsOf, pu0, pu1, pu2, pu3, Nat.zero_add, Nat.reduceAdd, Nat.reduceBEq, Bool.or_false, Bool.false_or, Bool.or_true, Bool.true_or, Bool.false_eq_true, ↓reduceIte, Act.put, List.setIfInBounds_toArray, List.set_cons_zero, List.set_cons_succ]
          simp only [c7, c13]
          go_simp
          exact hK _ _ (Up.refl _) rfl
        intro x w1 hU hS hR hlo hdis
        have h14 : (x 14).v = .bool true := by rw [← unhide HTB]; exact kval (hR 14 (by decide)) rfl
        have HC := hS.upb rfl
        have BC := Up.tr (up_drew _) HC
        have C1 := BC.blk T1
        have C2 := BC.blk T2
        have C3 := BC.blk T3
        have C7 := BC.blk TB.1
        have C8 := BC.blk TB.2
        have OQ := OQ0.keep (fun b _ hb => BC.block b (by have := UB.size; omega))
        have OR := OR0.keep (fun b _ hb => BC.block b (by have := UB.size; omega))
        have UC := hU
        refine Veil.mk ?_; simp only [kgoal, putsFrom, depsOf, pu0, pu1, pu2, pu3, Nat.zero_add, Nat.reduceAdd, Nat.reduceBEq, Bool.or_false, Bool.false_or, Bool.or_true, Bool.true_or, Bool.false_eq_true, ↓reduceIte, Act.put, List.setIfInBounds_toArray, List.set_cons_zero, List.set_cons_succ]
        rw [h14]
        generalize (x 0).v = y0 at *
        generalize (x 1).v = y1 at *
        generalize (x 2).v = y2 at *
        generalize (x 3).v = y3 at *
        generalize (x 4).v = y4 at *
        generalize (x 5).v = y5 at *
        generalize (x 6).v = y6 at *
        generalize (x 7).v = y7 at *
        generalize (x 8).v = y8 at *
        generalize (x 9).v = y9 at *
        generalize (x 10).v = y10 at *
        generalize (x 11).v = y11 at *
        generalize (x 12).v = y12 at *
        generalize (x 13).v = y13 at *
        clear hR hlo hdis hS HC BC h14 T1 T2 T3 TB OQ0 OR0 hU U5
        go_wp2_with fail
        refine wp_region_knd (by kernel_rfl) w UC [[], [], [0, 1], [], [], [3, 4], [5], [2], [6], []] [.val [] (fun _ g _ => g.v = .agg #[.bool bq, .slice aoq mq capq]), .val [] (fun w g _ => NumIn 1 2 w g.lo g.hi g.v), .val [] (fun w g _ => NumIn (Int.tdiv X Y + -1) (M + 3) w g.lo g.hi g.v), .val [] (fun _ g _ => g.v = .agg #[.bool br, .slice aor mr capr]), .val [] (fun _ g _ => g.v = .agg #[.bool b1, .slice ao1 n1 cap1]), .val [] (fun w g _ => g.v = .slice (some ⟨g.lo, 0, none⟩) 2 2 ∧ g.lo < g.hi ∧ w.heap[g.lo]? = some (.cells #[.bool br, .slice aor mr capr, .bool b1, .slice ao1 n1 cap1] 26 (0, 0))), .val [] (fun w g _ => NumIn (rz X Y + Y) (M + 2) w g.lo g.hi g.v), .old (w.heap.size + 1 + 1) 2 26 2, .old (w.heap.size + 1 + 1 + 1) 6 26 2, .val [] (fun _ g _ => g.v = .bool true)] (by kernel_rfl) (by kernel_rfl) rfl ⟨trivial, trivial, trivial, trivial, trivial, trivial, trivial, ⟨by omega, (Array.getElem?_eq_some_iff.1 C2).1, by simp [oldG]⟩, ⟨by omega, (Array.getElem?_eq_some_iff.1 C3).1, by simp [oldG]⟩, trivial, trivial⟩ ⟨fun _ _ _ _ _ h => h, fun _ _ _ _ hb h => h.keep hb, fun _ _ _ _ hb h => h.keep hb, fun _ _ _ _ _ h => h, fun _ _ _ _ _ h => h, fun _ _ _ _ hb h => ⟨h.1, h.2.1, (hb _ (Nat.le_refl _) h.2.1).trans h.2.2⟩, fun _ _ _ _ hb h => h.keep hb, trivial, trivial, fun _ _ _ _ _ h => h, trivial⟩ ⟨?_, ?_, ?_, ?_, ?_, ?_, ?_, ?_, ?_, ?_, trivial⟩ ?_
        · intro x w1 K hU hS hO hd hK
          obtain ⟨c0, c1, -⟩ := cells2 (hS.at C7 ⟨trivial, trivial, trivial, trivial, trivial, trivial, trivial, n72, n73, trivial, trivial⟩)
          refine Veil.mk ?_; simp only [kgoal, putsFrom, depsOf, pu0, pu1, pu2, pu3, Nat.zero_add, Nat.reduceAdd, Nat.reduceBEq, Bool.or_false, Bool.false_or, Bool.or_true, Bool.true_or, Bool.false_eq_true, ↓reduceIte, Act.put, List.setIfInBounds_toArray, List.set_cons_zero, List.set_cons_succ]
          go_simp
          exact hK _ _ (Up.refl _) rfl
        · intro x w1 K hU hS hO hd hK
          refine Veil.mk ?_; simp only [kgoal, putsFrom, depsOf, pu0, pu1, pu2, pu3, Nat.zero_add, Nat.reduceAdd, Nat.reduceBEq, Bool.or_false, Bool.false_or, Bool.or_true, Bool.true_or, Bool.false_eq_true, ↓reduceIte, Act.put, List.setIfInBounds_toArray, List.set_cons_zero, List.set_cons_succ]
          go_simp
          refine (r2int_rd 1 _ (by decide) (by decide)).mono ?_
          rintro e w2 ⟨v2, rfl, n2, u2⟩
          exact hK _ _ u2 n2
        · intro x w1 K hU hS hO hd hK
          have h0 : (x 0).v = _ := kval (hd 0 (by decide)).1 rfl
          have h1 : NumIn 1 2 w1 (x 1).lo (x 1).hi (x 1).v := kval (hd 1 (by decide)).1 rfl
          clear hd
          refine Veil.mk ?_; simp only [kgoal, putsFrom, depsOf, pu0, pu1, pu2, pu3, Nat.zero_add, Nat.reduceAdd, Nat.reduceBEq, Bool.or_false, Bool.false_or, Bool.or_true, Bool.true_or, Bool.false_eq_true, ↓reduceIte, Act.put, List.setIfInBounds_toArray, List.set_cons_zero, List.set_cons_succ]
          simp only [h0]
          go_simp
          refine (r2sub_rd (M := M + 2) ⟨bq, mq, fq, ⟨_, rfl, ((OQ.1.up (up_drew _)).since hS ⟨trivial, trivial, trivial, trivial, trivial, trivial, trivial, ⟨_, _, C2, by decide⟩, ⟨_, _, C3, by decide⟩, trivial, trivial⟩).sl⟩, cq.1.1, by omega, (unhide HS).1⟩ (h1.rd (by omega)) (by omega)).mono ?_
          rintro e w2 ⟨v2, rfl, n2, u2⟩
          exact hK _ _ u2 n2
        · intro x w1 K hU hS hO hd hK
          obtain ⟨c0, c1, -⟩ := cells2 (hS.at C8 ⟨trivial, trivial, trivial, trivial, trivial, trivial, trivial, n82, n83, trivial, trivial⟩)
          refine Veil.mk ?_; simp only [kgoal, putsFrom, depsOf, pu0, pu1, pu2, pu3, Nat.zero_add, Nat.reduceAdd, Nat.reduceBEq, Bool.or_false, Bool.false_or, Bool.or_true, Bool.true_or, Bool.false_eq_true, ↓reduceIte, Act.put, List.setIfInBounds_toArray, List.set_cons_zero, List.set_cons_succ]
          go_simp
          exact hK _ _ (Up.refl _) rfl
        · intro x w1 K hU hS hO hd hK
          obtain ⟨c0, c1, -⟩ := cells2 (hS.at C1 ⟨trivial, trivial, trivial, trivial, trivial, trivial, trivial, n12, n13, trivial, trivial⟩)
          refine Veil.mk ?_; simp only [kgoal, putsFrom, depsOf, pu0, pu1, pu2, pu3, Nat.zero_add, Nat.reduceAdd, Nat.reduceBEq, Bool.or_false, Bool.false_or, Bool.or_true, Bool.true_or, Bool.false_eq_true, ↓reduceIte, Act.put, List.setIfInBounds_toArray, List.set_cons_zero, List.set_cons_succ]
          go_simp
          exact hK _ _ (Up.refl _) rfl
        · intro x w1 K hU hS hO hd hK
          have h3 : (x 3).v = _ := kval (hd 3 (by decide)).1 rfl
          have h4 : (x 4).v = _ := kval (hd 4 (by decide)).1 rfl
          clear hd
          refine Veil.mk ?_; simp only [kgoal, putsFrom, depsOf, pu0, pu1, pu2, pu3, Nat.zero_add, Nat.reduceAdd, Nat.reduceBEq, Bool.or_false, Bool.false_or, Bool.or_true, Bool.true_or, Bool.false_eq_true, ↓reduceIte, Act.put, List.setIfInBounds_toArray, List.set_cons_zero, List.set_cons_succ]
          simp only [h3, h4]
          go_simp
          exact hK _ _ (up_alloc _ _) ⟨rfl, by show w1.heap.size < (w1.alloc _).heap.size; simp, heap_alloc_new w1 _⟩
        · intro x w1 K hU hS hO hd hK
          have h5 : _ ∧ _ ∧ _ := kval (hd 5 (by decide)).1 rfl
          obtain ⟨e5, -, b5⟩ := h5
          clear hd
          refine Veil.mk ?_; simp only [kgoal, putsFrom, depsOf, pu0, pu1, pu2, pu3, Nat.zero_add, Nat.reduceAdd, Nat.reduceBEq, Bool.or_false, Bool.false_or, Bool.or_true, Bool.true_or, Bool.false_eq_true, ↓reduceIte, Act.put, List.setIfInBounds_toArray, List.set_cons_zero, List.set_cons_succ]
          simp only [e5]
          go_simp
          refine (r2add2_rd (M := M) b5 ⟨br, mr, fr, ⟨_, rfl, ((OR.1.up (up_drew _)).since hS ⟨trivial, trivial, trivial, trivial, trivial, trivial, trivial, ⟨_, _, C2, by decide⟩, ⟨_, _, C3, by decide⟩, trivial, trivial⟩).sl⟩, cr.1.1, by omega, (unhide HS).2⟩ ((unhide HU).up hU) (by omega)).mono ?_
          rintro e w2 ⟨v2, rfl, n2, u2⟩
          exact hK _ _ u2 n2
        · intro x w1 K hU hS hO hd hK
          have h8 : NumIn _ _ _ _ _ _ := kval (hd 2 (by decide)).1 rfl
          obtain ⟨b8, n8, f8, ⟨v8, es, o8⟩, -⟩ := h8
          obtain ⟨ao8, cap8, rfl, -⟩ := id o8.sl
          have tt := (hO 7 _ _ rfl rfl (.inl rfl)).trans C2
          obtain ⟨d0, d1, f0, f1, -⟩ := cells2 tt
          clear hd
          refine Veil.mk ?_; simp only [kgoal, putsFrom, depsOf, pu0, pu1, pu2, pu3, Nat.zero_add, Nat.reduceAdd, Nat.reduceBEq, Bool.or_false, Bool.false_or, Bool.or_true, Bool.true_or, Bool.false_eq_true, ↓reduceIte, Act.put, List.setIfInBounds_toArray, List.set_cons_zero, List.set_cons_succ]
          go_simp
          exact hK _ _ (sto_two tt _ _).1 ⟨_, rfl, es, (sto_two tt _ _).2⟩
        · intro x w1 K hU hS hO hd hK
          have h8 : NumIn _ _ _ _ _ _ := kval (hd 6 (by decide)).1 rfl
          obtain ⟨b8, n8, f8, ⟨v8, es, o8⟩, -⟩ := h8
          obtain ⟨ao8, cap8, rfl, -⟩ := id o8.sl
          have tt := (hO 8 _ _ rfl rfl (.inl rfl)).trans C3
          obtain ⟨d0, d1, f0, f1, -⟩ := cells2 tt
          clear hd
          refine Veil.mk ?_; simp only [kgoal, putsFrom, depsOf, pu0, pu1, pu2, pu3, Nat.zero_add, Nat.reduceAdd, Nat.reduceBEq, Bool.or_false, Bool.false_or, Bool.or_true, Bool.true_or, Bool.false_eq_true, ↓reduceIte, Act.put, List.setIfInBounds_toArray, List.set_cons_zero, List.set_cons_succ]
          go_simp
          exact hK _ _ (sto_two tt _ _).1 ⟨_, rfl, es, (sto_two tt _ _).2⟩
        · intro x w1 K hU hS hO hd hK
          refine Veil.mk ?_; simp only [kgoal, putsFrom, depsOf, pu0, pu1, pu2, pu3, Nat.zero_add, Nat.reduceAdd, Nat.reduceBEq, Bool.or_false, Bool.false_or, Bool.or_true, Bool.true_or, Bool.false_eq_true, ↓reduceIte, Act.put, List.setIfInBounds_toArray, List.set_cons_zero, List.set_cons_succ]
          go_simp
          exact hK _ _ (Up.refl _) rfl
        intro x w1 hU hS hR hlo hdis
        obtain ⟨cs1, -, q1, t1⟩ := kold (hR 7 (by decide)) rfl
        obtain ⟨cs2, -, q2, t2⟩ := kold (hR 8 (by decide)) rfl
        have hokv : (x 9).v = .bool true := kval (hR 9 (by decide)) rfl
        have h2 : NumIn _ _ _ _ _ _ := kval (hR 2 (by decide)) rfl
        have h6 : NumIn _ _ _ _ _ _ := kval (hR 6 (by decide)) rfl
        have lo2 := hlo 2 (by decide)
        have lo6 := hlo 6 (by decide)
        obtain ⟨b6, n6, f6, ⟨v6, eQ, o6⟩, c6, l6, s6⟩ := h2
        obtain ⟨b7, n7, f7, ⟨v7, eR, o7⟩, c7, l7, s7⟩ := h6
        rw [eQ] at q1
        cases q1
        rw [eR] at q2
        cases q2
        obtain ⟨d0, d1, -⟩ := cells2 t1
        obtain ⟨d2, d3, -⟩ := cells2 t2
        refine Veil.mk ?_; simp only [kgoal, putsFrom, depsOf, pu0, pu1, pu2, pu3, Nat.zero_add, Nat.reduceAdd, Nat.reduceBEq, Bool.or_false, Bool.false_or, Bool.or_true, Bool.true_or, Bool.false_eq_true, ↓reduceIte, Act.put, List.setIfInBounds_toArray, List.set_cons_zero, List.set_cons_succ]
        rw [hokv]
        clear hR hdis hS
        go_wp2_with fail
        refine bodyPost_ret (by simp [results, Tryd.results37, go_sem, d0, d1, d2, d3]; rfl) rfl ?_
        exact ⟨_, rfl, ⟨_, _, by rw [unhide HOK], ⟨b6, n6, f6, ⟨_, rfl, o6.wide (by have := UC.size; omega) lo2.2.2⟩, c6, by omega, s6.trans (unhide HF).1⟩, ⟨b7, n7, f7, ⟨_, rfl, o7.wide (by have := UC.size; omega) lo6.2.2⟩, c7, by omega, s7.trans (unhide HF).2⟩⟩, hU⟩

end Go.Proofs.YtdiacbfdfoeemaaDoor
