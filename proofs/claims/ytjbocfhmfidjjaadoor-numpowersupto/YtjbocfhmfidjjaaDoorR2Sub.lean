/-
  What is proved here: the document's own difference, and its comparison of two numbers (chapter 2), by values.
-/
import Derived.Test.YtjbocfhmfidjjaaDoorR2Plus
namespace Go.Proofs.YtjbocfhmfidjjaaDoor
open Go Go.RowKit

set_option linter.unusedSimpArgs false in
set_option maxRecDepth 4000 in
set_option maxHeartbeats 4000000 in
theorem r2sub_rd {X Y : Int} {M : Nat} {w : World} {a u : Value} (ha : RdD X M w a) (hu : RdD Y M w u) (hM : 2 * M + 3 ≤ 10000000000) :
    Calls Tryd.prog 29 #[a, u] w fun e w' => ∃ v, e = .returned v ∧ NumIn (X + -Y) (M + 1) w' w.heap.size w'.heap.size v ∧ Up w w' := by
  obtain ⟨b0, ao0, n0, cap0, rfl⟩ := ha.agg
  obtain ⟨b1, ao1, n1, cap1, rfl⟩ := hu.agg
  have U0 := (((up_alloc w (.cells #[.bool b0, .slice ao0 n0 cap0] 26)).tr (up_alloc _ (.cells #[.bool b1, .slice ao1 n1 cap1] 26))).tr (up_alloc _ (.cells #[.bool false, .slice none 0 0] 26)))
  have K3 := hide (three_blocks w (.cells #[.bool b0, .slice ao0 n0 cap0] 26) (.cells #[.bool b1, .slice ao1 n1 cap1] 26) (.cells #[.bool false, .slice none 0 0] 26))
  have HA := hide ha
  have HU := hide hu
  clear ha hu
  have ne1 : w.heap.size ≠ w.heap.size + 1 + 1 := by omega
  have ne2 : w.heap.size + 1 ≠ w.heap.size + 1 + 1 := by omega
  go_enter Tryd.func29, Tryd.ntmps29
  go_wp2_with fail
  refine wp_region_knd (by kernel_rfl) w U0 [[], [], [1], [0, 2], [3]] [.val [] (fun _ g _ => g.v = .agg #[.bool b0, .slice ao0 n0 cap0]), .val [] (fun _ g _ => g.v = .agg #[.bool b1, .slice ao1 n1 cap1]), .val [] (fun w g _ => NumIn (-Y) M w g.lo g.hi g.v), .val [] (fun w g _ => NumIn (X + -Y) (M + 1) w g.lo g.hi g.v), .old (w.heap.size + 1 + 1) 3 26 2] (by kernel_rfl) (by kernel_rfl) rfl ⟨trivial, trivial, trivial, trivial, ⟨by omega, (Array.getElem?_eq_some_iff.1 (unhide K3).2.2).1, by simp [oldG]⟩, trivial⟩ ⟨fun _ _ _ _ _ h => h, fun _ _ _ _ _ h => h, fun _ _ _ _ hb h => h.keep hb, fun _ _ _ _ hb h => h.keep hb, trivial, trivial⟩ ⟨?_, ?_, ?_, ?_, ?_, trivial⟩ ?_
  · intro x w1 K hU hS hO hd hK
    obtain ⟨c0, c1, -⟩ := cells2 (hS.at (unhide K3).1 ⟨trivial, trivial, trivial, trivial, ne1, trivial⟩)
    refine Veil.mk ?_; simp only [kgoal, putsFrom, depsOf, pu0, pu1, pu2, pu3, Nat.zero_add, Nat.reduceAdd, Nat.reduceBEq, Bool.or_false, Bool.false_or, Bool.or_true, Bool.true_or, Bool.false_eq_true, ↓reduceIte, Act.put, List.setIfInBounds_toArray, List.set_cons_zero, List.set_cons_succ]
    go_simp
    exact hK _ _ (Up.refl _) rfl
  · intro x w1 K hU hS hO hd hK
    obtain ⟨c0, c1, -⟩ := cells2 (hS.at (unhide K3).2.1 ⟨trivial, trivial, trivial, trivial, ne2, trivial⟩)
    refine Veil.mk ?_; simp only [kgoal, putsFrom, depsOf, pu0, pu1, pu2, pu3, Nat.zero_add, Nat.reduceAdd, Nat.reduceBEq, Bool.or_false, Bool.false_or, Bool.or_true, Bool.true_or, Bool.false_eq_true, ↓reduceIte, Act.put, List.setIfInBounds_toArray, List.set_cons_zero, List.set_cons_succ]
    go_simp
    exact hK _ _ (Up.refl _) rfl
  · intro x w1 K hU hS hO hd hK
    have h1 : (x 1).v = _ := kval (hd 1 (by decide)).1 rfl
    clear hd
    refine Veil.mk ?_; simp only [kgoal, putsFrom, depsOf, pu0, pu1, pu2, pu3, Nat.zero_add, Nat.reduceAdd, Nat.reduceBEq, Bool.or_false, Bool.false_or, Bool.or_true, Bool.true_or, Bool.false_eq_true, ↓reduceIte, Act.put, List.setIfInBounds_toArray, List.set_cons_zero, List.set_cons_succ]
    simp only [h1]
    go_simp
    refine (r2neg_rd ((unhide HU).up hU) (by omega)).mono ?_
    rintro e w2 ⟨v2, rfl, n2, u2⟩
    exact hK _ _ u2 n2
  · intro x w1 K hU hS hO hd hK
    have h0 : (x 0).v = _ := kval (hd 0 (by decide)).1 rfl
    have h2 : NumIn (-Y) M w1 (x 2).lo (x 2).hi (x 2).v := kval (hd 2 (by decide)).1 rfl
    clear hd
    refine Veil.mk ?_; simp only [kgoal, putsFrom, depsOf, pu0, pu1, pu2, pu3, Nat.zero_add, Nat.reduceAdd, Nat.reduceBEq, Bool.or_false, Bool.false_or, Bool.or_true, Bool.true_or, Bool.false_eq_true, ↓reduceIte, Act.put, List.setIfInBounds_toArray, List.set_cons_zero, List.set_cons_succ]
    simp only [h0]
    go_simp
    refine (r2plus_rd ((unhide HA).up hU) (h2.rd (Nat.le_refl _)) (by omega)).mono ?_
    rintro e w2 ⟨v2, rfl, n2, u2⟩
    exact hK _ _ u2 n2
  · intro x w1 K hU hS hO hd hK
    have h8 : NumIn _ _ _ _ _ _ := kval (hd 3 (by decide)).1 rfl
    obtain ⟨b8, n8, f8, ⟨v8, es, o8⟩, -⟩ := h8
    obtain ⟨ao8, cap8, rfl, -⟩ := id o8.sl
    have tt := (hO 4 _ _ rfl rfl (.inl rfl)).trans (unhide K3).2.2
    obtain ⟨d0, d1, f0, f1, -⟩ := cells2 tt
    clear hd
    refine Veil.mk ?_; simp only [kgoal, putsFrom, depsOf, pu0, pu1, pu2, pu3, Nat.zero_add, Nat.reduceAdd, Nat.reduceBEq, Bool.or_false, Bool.false_or, Bool.or_true, Bool.true_or, Bool.false_eq_true, ↓reduceIte, Act.put, List.setIfInBounds_toArray, List.set_cons_zero, List.set_cons_succ]
    go_simp
    exact hK _ _ (sto_two tt _ _).1 ⟨_, rfl, es, (sto_two tt _ _).2⟩
  intro x w1 hU hS hR hlo hdis
  have h8 : NumIn _ _ _ _ _ _ := kval (hR 3 (by decide)) rfl
  have h8lo := hlo 3 (by decide)
  obtain ⟨cs9, -, q9, t9⟩ := kold (hR 4 (by decide)) rfl
  obtain ⟨b8, n8, f8, ⟨v8, e8, o8⟩, c8, l8, s8⟩ := h8
  rw [e8] at q9
  cases q9
  obtain ⟨d0, d1, -⟩ := cells2 t9
  refine Veil.mk ?_; simp only [kgoal, putsFrom, depsOf, pu0, pu1, pu2, pu3, Nat.zero_add, Nat.reduceAdd, Nat.reduceBEq, Bool.or_false, Bool.false_or, Bool.or_true, Bool.true_or, Bool.false_eq_true, ↓reduceIte, Act.put, List.setIfInBounds_toArray, List.set_cons_zero, List.set_cons_succ]
  clear hR hdis hS
  go_wp2_with fail
  refine bodyPost_ret (by simp [results, Tryd.results29, go_sem, d0, d1]; rfl) rfl ?_
  exact ⟨_, rfl, ⟨b8, n8, f8, ⟨_, rfl, o8.wide (by simp at h8lo; omega) h8lo.2.2⟩, c8, l8, s8⟩, hU⟩

theorem cmpZ_zero {X Y : Int} (h : X + -Y = 0) : cmpZ X Y = 0 := by
  unfold cmpZ
  rw [if_neg (by omega), if_neg (by omega)]

set_option maxRecDepth 4000 in
set_option maxHeartbeats 4000000 in
theorem r2cmp_rd {X Y : Int} {M : Nat} {w : World} {a u : Value} (ha : RdD X M w a) (hu : RdD Y M w u) (hM : 2 * M + 3 ≤ 10000000000) :
    Calls Tryd.prog 33 #[a, u] w fun e w' => ∃ v, e = .returned v ∧ v = .int .i64 (cmpZ X Y) ∧ Up w w' := by
  obtain ⟨b0, ao0, n0, cap0, rfl⟩ := ha.agg
  obtain ⟨b1, ao1, n1, cap1, rfl⟩ := hu.agg
  have U0 := ((up_alloc w (.cells #[.bool b0, .slice ao0 n0 cap0] 26)).tr (up_alloc _ (.cells #[.bool b1, .slice ao1 n1 cap1] 26)))
  have HA := hide ha
  have HU := hide hu
  clear ha hu
  go_enter Tryd.func33, Tryd.ntmps33
  go_wp2_with fail
  refine (r2sub_rd ((unhide HA).up U0) ((unhide HU).up U0) (by omega)).mono ?_
  rintro e w1 ⟨v1, rfl, ⟨b, n, f, ⟨v, rfl, o⟩, c, l, s⟩, u1⟩
  obtain ⟨ao, cap, rfl, -⟩ := id o.sl
  by_cases hn : n = 0
  · subst hn
    have hz : cmpZ X Y = 0 := cmpZ_zero (by rw [← s]; cases b <;> simp [sgn, num])
    go_wp2_with fail
    exact bodyPost_ret (by simp [results, Tryd.results33, go_sem]; rfl) rfl ⟨_, rfl, by rw [hz], (U0.tr u1).tr (up_alloc _ _)⟩
  · have hp : 0 < num 4294967296 f n := by
      rcases c.1.2 with h0 | h0
      · omega
      · have := num_ge (B := 4294967296) (f := f) (n := n) (by omega) h0
        have h1 : 0 < (4294967296 : Nat) ^ (n - 1) := Nat.pow_pos (by decide)
        omega
    cases b
    · have hz : cmpZ X Y = 1 := cmpZ_gt (by simp [sgn] at s; omega)
      go_wp2_with fail
      exact bodyPost_ret (by simp [results, Tryd.results33, go_sem]; rfl) rfl ⟨_, rfl, by rw [hz], (U0.tr u1).tr (up_alloc _ _)⟩
    · have hz : cmpZ X Y = -1 := cmpZ_lt (by simp [sgn] at s; omega)
      go_wp2_with fail
      exact bodyPost_ret (by simp [results, Tryd.results33, go_sem]; rfl) rfl ⟨_, rfl, by rw [hz], (U0.tr u1).tr (up_alloc _ _)⟩

end Go.Proofs.YtjbocfhmfidjjaaDoor
