/-
  What is proved here: tandemlaw02.NumDivides answers true for all numbers.
-/
import Derived.Test.YtkmpobmpencefaaDoorNGcd2
namespace Go.Proofs.YtkmpobmpencefaaDoor
open Go Go.RowKit

set_option linter.unusedSimpArgs false in
set_option maxRecDepth 60000 in
set_option maxHeartbeats 4000000 in
theorem divides_walk (aa : Value) (ba : Bool) (na : Nat) (fa : Nat → Nat) (ab : Value) (bb : Bool) (nb : Nat) (fb : Nat → Nat) (ag : Value) (bg : Bool) (ng : Nat) (fg : Nat → Nat) (w : World) (haa : Nm w aa ba na fa) (hab : Nm w ab bb nb fb) (hag : Nm w ag bg ng fg) (hfa : ∀ i, i < na → fa i < 4294967296) (hfb : ∀ i, i < nb → fb i < 4294967296) (hfg : ∀ i, i < ng → fg i < 4294967296) (hna : na ≤ 35184372087808) (hnb : nb ≤ 35184372087808) (hng : ng ≤ 35184372087808) (htab : Tab w) :
    Calls Tryd.prog 11 #[aa, ab, ag] w fun e w' => e = .returned (.bool true) ∧ Up w w' := by
  obtain ⟨va, rfl, hva⟩ := haa
  obtain ⟨aoa, capa, rfl, -⟩ := id hva
  obtain ⟨Xa, hXa⟩ : ∃ X, sgn ba (num 4294967296 fa na) = X := ⟨_, rfl⟩
  have Ra := hide (show RdD Xa na w (.agg #[.bool ba, .slice aoa na capa]) from ⟨ba, na, fa, ⟨_, rfl, hva⟩, hfa, Nat.le_refl _, hXa⟩)
  obtain ⟨vb, rfl, hvb⟩ := hab
  obtain ⟨aob, capb, rfl, -⟩ := id hvb
  obtain ⟨Xb, hXb⟩ : ∃ X, sgn bb (num 4294967296 fb nb) = X := ⟨_, rfl⟩
  have Rb := hide (show RdD Xb nb w (.agg #[.bool bb, .slice aob nb capb]) from ⟨bb, nb, fb, ⟨_, rfl, hvb⟩, hfb, Nat.le_refl _, hXb⟩)
  obtain ⟨vg, rfl, hvg⟩ := hag
  obtain ⟨aog, capg, rfl, -⟩ := id hvg
  obtain ⟨Xg, hXg⟩ : ∃ X, sgn bg (num 4294967296 fg ng) = X := ⟨_, rfl⟩
  have Rg := hide (show RdD Xg ng w (.agg #[.bool bg, .slice aog ng capg]) from ⟨bg, ng, fg, ⟨_, rfl, hvg⟩, hfg, Nat.le_refl _, hXg⟩)
  have HT := hide htab
  clear htab hva hfa hXa hvb hfb hXb hvg hfg hXg
  have K3 := hide (three_blocks w (.cells #[.bool ba, .slice aoa na capa] 26) (.cells #[.bool bb, .slice aob nb capb] 26) (.cells #[.bool bg, .slice aog ng capg] 26))
  have V := ((up_alloc w (.cells #[.bool ba, .slice aoa na capa] 26)).tr (up_alloc _ (.cells #[.bool bb, .slice aob nb capb] 26))).tr (up_alloc _ (.cells #[.bool bg, .slice aog ng capg] 26))
  go_enter Tryd.func11, Tryd.ntmps11
  go_wp2_with fail
  refine wp_region_knd (by kernel_rfl) w V [[], [0], [], [2], [1, 3], [4, 1, 3], [], [6, 5]] [.val [] (fun _ g _ => g.v = .agg #[.bool ba, .slice aoa na capa]), .val [] (fun w g _ => NumD (Xa) (na) w g.lo g.hi g.v), .val [] (fun _ g _ => g.v = .agg #[.bool bg, .slice aog ng capg]), .val [] (fun w g _ => NumD (Xg) (ng) w g.lo g.hi g.v), .val [1, 3] (fun w g vs => Pair2 w g vs), .val [] (fun w g _ => NumIn (Xa * Xg) ((na) + (ng)) w g.lo g.hi g.v), .box 26 2, .sto 6 5 26 2] (by kernel_rfl) (by kernel_rfl) rfl ⟨trivial, trivial, trivial, trivial, trivial, trivial, trivial, trivial, trivial⟩ ⟨fun _ _ _ _ _ h => h, fun _ _ _ _ hb h => h.keep hb, fun _ _ _ _ _ h => h, fun _ _ _ _ hb h => h.keep hb, fun _ _ _ _ hb h => h.keep hb, fun _ _ _ _ hb h => h.keep hb, trivial, trivial, trivial⟩ ⟨?_, ?_, ?_, ?_, ?_, ?_, ?_, ?_, trivial⟩ ?_
  · intro x w1 K hU hS hO hd hK
    obtain ⟨k0, k1, -⟩ := cells2 ((Up.tr (up_drew _) (hS.upb rfl)).blk (unhide K3).1)
    clear hd
    refine Veil.mk ?_; simp only [kgoal, putsFrom, depsOf, pu0, pu1, pu2, pu3, Nat.zero_add, Nat.reduceAdd, Nat.reduceBEq, Bool.or_false, Bool.false_or, Bool.or_true, Bool.true_or, Bool.false_eq_true, ↓reduceIte, Act.put, List.setIfInBounds_toArray, List.set_cons_zero, List.set_cons_succ]
    go_simp
    exact hK _ _ (Up.refl _) rfl
  · intro x w1 K hU hS hO hd hK
    have h0 : (x 0).v = .agg #[.bool ba, .slice aoa na capa] := kval (hd 0 (by decide)).1 rfl
    clear hd
    refine Veil.mk ?_; simp only [kgoal, putsFrom, depsOf, pu0, pu1, pu2, pu3, Nat.zero_add, Nat.reduceAdd, Nat.reduceBEq, Bool.or_false, Bool.false_or, Bool.or_true, Bool.true_or, Bool.false_eq_true, ↓reduceIte, Act.put, List.setIfInBounds_toArray, List.set_cons_zero, List.set_cons_succ]
    simp only [h0]
    go_simp
    refine (c_rd (M := na) (((unhide Ra).up hU)) (by omega)).mono ?_
    rintro e w2 ⟨v2, rfl, n2, u2⟩
    exact hK _ _ u2 n2
  · intro x w1 K hU hS hO hd hK
    obtain ⟨k0, k1, -⟩ := cells2 ((Up.tr (up_drew _) (hS.upb rfl)).blk (unhide K3).2.2)
    clear hd
    refine Veil.mk ?_; simp only [kgoal, putsFrom, depsOf, pu0, pu1, pu2, pu3, Nat.zero_add, Nat.reduceAdd, Nat.reduceBEq, Bool.or_false, Bool.false_or, Bool.or_true, Bool.true_or, Bool.false_eq_true, ↓reduceIte, Act.put, List.setIfInBounds_toArray, List.set_cons_zero, List.set_cons_succ]
    go_simp
    exact hK _ _ (Up.refl _) rfl
  · intro x w1 K hU hS hO hd hK
    have h2 : (x 2).v = .agg #[.bool bg, .slice aog ng capg] := kval (hd 2 (by decide)).1 rfl
    clear hd
    refine Veil.mk ?_; simp only [kgoal, putsFrom, depsOf, pu0, pu1, pu2, pu3, Nat.zero_add, Nat.reduceAdd, Nat.reduceBEq, Bool.or_false, Bool.false_or, Bool.or_true, Bool.true_or, Bool.false_eq_true, ↓reduceIte, Act.put, List.setIfInBounds_toArray, List.set_cons_zero, List.set_cons_succ]
    simp only [h2]
    go_simp
    refine (c_rd (M := ng) (((unhide Rg).up hU)) (by omega)).mono ?_
    rintro e w2 ⟨v2, rfl, n2, u2⟩
    exact hK _ _ u2 n2
  · intro x w1 K hU hS hO hd hK
    have h1 : NumD (Xa) (na) w1 (x 1).lo (x 1).hi (x 1).v := kval (hd 1 (by decide)).1 rfl
    have h3 : NumD (Xg) (ng) w1 (x 3).lo (x 3).hi (x 3).v := kval (hd 3 (by decide)).1 rfl
    obtain ⟨pa, qa, ra, ta, ea⟩ := (h1.rd (Nat.le_refl _)).agg
    obtain ⟨pb, qb, rb, tb, eb⟩ := (h3.rd (Nat.le_refl _)).agg
    clear hd
    refine Veil.mk ?_; simp only [kgoal, putsFrom, depsOf, pu0, pu1, pu2, pu3, Nat.zero_add, Nat.reduceAdd, Nat.reduceBEq, Bool.or_false, Bool.false_or, Bool.or_true, Bool.true_or, Bool.false_eq_true, ↓reduceIte, Act.put, List.setIfInBounds_toArray, List.set_cons_zero, List.set_cons_succ]
    simp only [ea, eb]
    go_simp
    exact hK _ _ (up_alloc _ _) ⟨rfl, by show w1.heap.size < (w1.alloc _).heap.size; simp, _, _, _, _, by show [(x 1).v, (x 3).v] = _; rw [ea, eb], heap_alloc_new w1 _⟩
  · intro x w1 K hU hS hO hd hK
    have h4 : Pair2 w1 (x 4) [(x 1).v, (x 3).v] := kval (hd 4 (by decide)).1 rfl
    have h1 : NumD (Xa) (na) w1 (x 1).lo (x 1).hi (x 1).v := kval (hd 1 (by decide)).1 rfl
    have h3 : NumD (Xg) (ng) w1 (x 3).lo (x 3).hi (x 3).v := kval (hd 3 (by decide)).1 rfl
    obtain ⟨ep, -, b1, v1, b2, v2, ql, hb⟩ := h4
    have ea := (List.cons.inj ql).1
    have eb := (List.cons.inj (List.cons.inj ql).2).1
    rw [ea] at h1
    rw [eb] at h3
    clear hd
    refine Veil.mk ?_; simp only [kgoal, putsFrom, depsOf, pu0, pu1, pu2, pu3, Nat.zero_add, Nat.reduceAdd, Nat.reduceBEq, Bool.or_false, Bool.false_or, Bool.or_true, Bool.true_or, Bool.false_eq_true, ↓reduceIte, Act.put, List.setIfInBounds_toArray, List.set_cons_zero, List.set_cons_succ]
    simp only [ep]
    go_simp
    refine (mul2_rd (M1 := na) (M2 := ng) hb (h1.rd (by omega)) (h3.rd (by omega)) (by omega)).mono ?_
    rintro e w2 ⟨v2, rfl, n2, u2⟩
    exact hK _ _ u2 n2
  · intro x w1 K hU hS hO hd hK
    refine Veil.mk ?_; simp only [kgoal, putsFrom, depsOf, pu0, pu1, pu2, pu3, Nat.zero_add, Nat.reduceAdd, Nat.reduceBEq, Bool.or_false, Bool.false_or, Bool.or_true, Bool.true_or, Bool.false_eq_true, ↓reduceIte, Act.put, List.setIfInBounds_toArray, List.set_cons_zero, List.set_cons_succ]
    go_simp
    exact hK _ _ (up_alloc _ _) (box_new rfl hS)
  · intro x w1 K hU hS hO hd hK
    obtain ⟨c0, c1, eb, hb⟩ := kbox2 (hd 6 (by decide)).1 rfl
    have h5 : NumIn (Xa * Xg) ((na) + (ng)) w1 (x 5).lo (x 5).hi (x 5).v := kval (hd 5 (by decide)).1 rfl
    obtain ⟨pa, qa, ra, ta, es⟩ := (h5.rd (Nat.le_refl _)).agg
    clear h5
    obtain ⟨d0, d1, f0, f1, -⟩ := cells2 hb
    clear hd
    refine Veil.mk ?_; simp only [kgoal, putsFrom, depsOf, pu0, pu1, pu2, pu3, Nat.zero_add, Nat.reduceAdd, Nat.reduceBEq, Bool.or_false, Bool.false_or, Bool.or_true, Bool.true_or, Bool.false_eq_true, ↓reduceIte, Act.put, List.setIfInBounds_toArray, List.set_cons_zero, List.set_cons_succ]
    go_simp
    exact hK _ _ (sto_two hb _ _).1 ⟨_, rfl, es, (sto_two hb _ _).2⟩
  intro x w1 hU hS hR hlo hdis
  have hx : NumIn (Xa * Xg) ((na) + (ng)) w1 (x 5).lo (x 5).hi (x 5).v := kval (hR 5 (by decide)) rfl
  obtain ⟨bx, aox, nx, capx, ex⟩ := (hx.rd (Nat.le_refl _)).agg
  rw [ex] at hx
  obtain ⟨cs, -, q0, Tx⟩ := ksto (hR 7 (by decide)) rfl
  rw [ex] at q0
  cases q0
  obtain ⟨eb, -⟩ := kbox (hR 6 (by decide)) rfl
  have hG := Up.tr (up_drew _) (hS.upb rfl)
  have Cx := hide hx.rc
  refine Veil.mk ?_; simp only [kgoal, putsFrom, depsOf, pu0, pu1, pu2, pu3, Nat.zero_add, Nat.reduceAdd, Nat.reduceBEq, Bool.or_false, Bool.false_or, Bool.or_true, Bool.true_or, Bool.false_eq_true, ↓reduceIte, Act.put, List.setIfInBounds_toArray, List.set_cons_zero, List.set_cons_succ]
  rw [eb]
  generalize (x 0).v = y0x at *
  generalize (x 1).v = y1x at *
  generalize (x 2).v = y2x at *
  generalize (x 3).v = y3x at *
  generalize (x 4).v = y4x at *
  generalize (x 5).v = y5x at *
  generalize (x 6).lo = gx at *
  clear hR hlo hdis hS hx ex eb
  have B := hG
  replace V := hU
  clear hG hU
  go_wp2_with fail
  refine wp_region_knd (by kernel_rfl) w V [[], [0], [], [2], [1, 3], [4, 1, 3], [], [6, 5]] [.val [] (fun _ g _ => g.v = .agg #[.bool bb, .slice aob nb capb]), .val [] (fun w g _ => NumD (Xb) (nb) w g.lo g.hi g.v), .val [] (fun _ g _ => g.v = .agg #[.bool bg, .slice aog ng capg]), .val [] (fun w g _ => NumD (Xg) (ng) w g.lo g.hi g.v), .val [1, 3] (fun w g vs => Pair2 w g vs), .val [] (fun w g _ => NumIn (Xb * Xg) ((nb) + (ng)) w g.lo g.hi g.v), .box 26 2, .sto 6 5 26 2] (by kernel_rfl) (by kernel_rfl) rfl ⟨trivial, trivial, trivial, trivial, trivial, trivial, trivial, trivial, trivial⟩ ⟨fun _ _ _ _ _ h => h, fun _ _ _ _ hb h => h.keep hb, fun _ _ _ _ _ h => h, fun _ _ _ _ hb h => h.keep hb, fun _ _ _ _ hb h => h.keep hb, fun _ _ _ _ hb h => h.keep hb, trivial, trivial, trivial⟩ ⟨?_, ?_, ?_, ?_, ?_, ?_, ?_, ?_, trivial⟩ ?_
  · intro x w1 K hU hS hO hd hK
    obtain ⟨k0, k1, -⟩ := cells2 ((B.tr (Up.tr (up_drew _) (hS.upb rfl))).blk (unhide K3).2.1)
    clear hd
    refine Veil.mk ?_; simp only [kgoal, putsFrom, depsOf, pu0, pu1, pu2, pu3, Nat.zero_add, Nat.reduceAdd, Nat.reduceBEq, Bool.or_false, Bool.false_or, Bool.or_true, Bool.true_or, Bool.false_eq_true, ↓reduceIte, Act.put, List.setIfInBounds_toArray, List.set_cons_zero, List.set_cons_succ]
    go_simp
    exact hK _ _ (Up.refl _) rfl
  · intro x w1 K hU hS hO hd hK
    have h0 : (x 0).v = .agg #[.bool bb, .slice aob nb capb] := kval (hd 0 (by decide)).1 rfl
    clear hd
    refine Veil.mk ?_; simp only [kgoal, putsFrom, depsOf, pu0, pu1, pu2, pu3, Nat.zero_add, Nat.reduceAdd, Nat.reduceBEq, Bool.or_false, Bool.false_or, Bool.or_true, Bool.true_or, Bool.false_eq_true, ↓reduceIte, Act.put, List.setIfInBounds_toArray, List.set_cons_zero, List.set_cons_succ]
    simp only [h0]
    go_simp
    refine (c_rd (M := nb) (((unhide Rb).up hU)) (by omega)).mono ?_
    rintro e w2 ⟨v2, rfl, n2, u2⟩
    exact hK _ _ u2 n2
  · intro x w1 K hU hS hO hd hK
    obtain ⟨k0, k1, -⟩ := cells2 ((B.tr (Up.tr (up_drew _) (hS.upb rfl))).blk (unhide K3).2.2)
    clear hd
    refine Veil.mk ?_; simp only [kgoal, putsFrom, depsOf, pu0, pu1, pu2, pu3, Nat.zero_add, Nat.reduceAdd, Nat.reduceBEq, Bool.or_false, Bool.false_or, Bool.or_true, Bool.true_or, Bool.false_eq_true, ↓reduceIte, Act.put, List.setIfInBounds_toArray, List.set_cons_zero, List.set_cons_succ]
    go_simp
    exact hK _ _ (Up.refl _) rfl
  · intro x w1 K hU hS hO hd hK
    have h2 : (x 2).v = .agg #[.bool bg, .slice aog ng capg] := kval (hd 2 (by decide)).1 rfl
    clear hd
    refine Veil.mk ?_; simp only [kgoal, putsFrom, depsOf, pu0, pu1, pu2, pu3, Nat.zero_add, Nat.reduceAdd, Nat.reduceBEq, Bool.or_false, Bool.false_or, Bool.or_true, Bool.true_or, Bool.false_eq_true, ↓reduceIte, Act.put, List.setIfInBounds_toArray, List.set_cons_zero, List.set_cons_succ]
    simp only [h2]
    go_simp
    refine (c_rd (M := ng) (((unhide Rg).up hU)) (by omega)).mono ?_
    rintro e w2 ⟨v2, rfl, n2, u2⟩
    exact hK _ _ u2 n2
  · intro x w1 K hU hS hO hd hK
    have h1 : NumD (Xb) (nb) w1 (x 1).lo (x 1).hi (x 1).v := kval (hd 1 (by decide)).1 rfl
    have h3 : NumD (Xg) (ng) w1 (x 3).lo (x 3).hi (x 3).v := kval (hd 3 (by decide)).1 rfl
    obtain ⟨pa, qa, ra, ta, ea⟩ := (h1.rd (Nat.le_refl _)).agg
    obtain ⟨pb, qb, rb, tb, eb⟩ := (h3.rd (Nat.le_refl _)).agg
    clear hd
    refine Veil.mk ?_; simp only [kgoal, putsFrom, depsOf, pu0, pu1, pu2, pu3, Nat.zero_add, Nat.reduceAdd, Nat.reduceBEq, Bool.or_false, Bool.false_or, Bool.or_true, Bool.true_or, Bool.false_eq_true, ↓reduceIte, Act.put, List.setIfInBounds_toArray, List.set_cons_zero, List.set_cons_succ]
    simp only [ea, eb]
    go_simp
    exact hK _ _ (up_alloc _ _) ⟨rfl, by show w1.heap.size < (w1.alloc _).heap.size; simp, _, _, _, _, by show [(x 1).v, (x 3).v] = _; rw [ea, eb], heap_alloc_new w1 _⟩
  · intro x w1 K hU hS hO hd hK
    have h4 : Pair2 w1 (x 4) [(x 1).v, (x 3).v] := kval (hd 4 (by decide)).1 rfl
    have h1 : NumD (Xb) (nb) w1 (x 1).lo (x 1).hi (x 1).v := kval (hd 1 (by decide)).1 rfl
    have h3 : NumD (Xg) (ng) w1 (x 3).lo (x 3).hi (x 3).v := kval (hd 3 (by decide)).1 rfl
    obtain ⟨ep, -, b1, v1, b2, v2, ql, hb⟩ := h4
    have ea := (List.cons.inj ql).1
    have eb := (List.cons.inj (List.cons.inj ql).2).1
    rw [ea] at h1
    rw [eb] at h3
    clear hd
    refine Veil.mk ?_; simp only [kgoal, putsFrom, depsOf, pu0, pu1, pu2, pu3, Nat.zero_add, Nat.reduceAdd, Nat.reduceBEq, Bool.or_false, Bool.false_or, Bool.or_true, Bool.true_or, Bool.false_eq_true, ↓reduceIte, Act.put, List.setIfInBounds_toArray, List.set_cons_zero, List.set_cons_succ]
    simp only [ep]
    go_simp
    refine (mul2_rd (M1 := nb) (M2 := ng) hb (h1.rd (by omega)) (h3.rd (by omega)) (by omega)).mono ?_
    rintro e w2 ⟨v2, rfl, n2, u2⟩
    exact hK _ _ u2 n2
  · intro x w1 K hU hS hO hd hK
    refine Veil.mk ?_; simp only [kgoal, putsFrom, depsOf, pu0, pu1, pu2, pu3, Nat.zero_add, Nat.reduceAdd, Nat.reduceBEq, Bool.or_false, Bool.false_or, Bool.or_true, Bool.true_or, Bool.false_eq_true, ↓reduceIte, Act.put, List.setIfInBounds_toArray, List.set_cons_zero, List.set_cons_succ]
    go_simp
    exact hK _ _ (up_alloc _ _) (box_new rfl hS)
  · intro x w1 K hU hS hO hd hK
    obtain ⟨c0, c1, eb, hb⟩ := kbox2 (hd 6 (by decide)).1 rfl
    have h5 : NumIn (Xb * Xg) ((nb) + (ng)) w1 (x 5).lo (x 5).hi (x 5).v := kval (hd 5 (by decide)).1 rfl
    obtain ⟨pa, qa, ra, ta, es⟩ := (h5.rd (Nat.le_refl _)).agg
    clear h5
    obtain ⟨d0, d1, f0, f1, -⟩ := cells2 hb
    clear hd
    refine Veil.mk ?_; simp only [kgoal, putsFrom, depsOf, pu0, pu1, pu2, pu3, Nat.zero_add, Nat.reduceAdd, Nat.reduceBEq, Bool.or_false, Bool.false_or, Bool.or_true, Bool.true_or, Bool.false_eq_true, ↓reduceIte, Act.put, List.setIfInBounds_toArray, List.set_cons_zero, List.set_cons_succ]
    go_simp
    exact hK _ _ (sto_two hb _ _).1 ⟨_, rfl, es, (sto_two hb _ _).2⟩
  intro x w1 hU hS hR hlo hdis
  have hx : NumIn (Xb * Xg) ((nb) + (ng)) w1 (x 5).lo (x 5).hi (x 5).v := kval (hR 5 (by decide)) rfl
  obtain ⟨bh, aoh, nh, caph, ex⟩ := (hx.rd (Nat.le_refl _)).agg
  rw [ex] at hx
  obtain ⟨cs, -, q0, Th⟩ := ksto (hR 7 (by decide)) rfl
  rw [ex] at q0
  cases q0
  obtain ⟨eb, -⟩ := kbox (hR 6 (by decide)) rfl
  have hG := Up.tr (up_drew _) (hS.upb rfl)
  have Ch := hide hx.rc
  refine Veil.mk ?_; simp only [kgoal, putsFrom, depsOf, pu0, pu1, pu2, pu3, Nat.zero_add, Nat.reduceAdd, Nat.reduceBEq, Bool.or_false, Bool.false_or, Bool.or_true, Bool.true_or, Bool.false_eq_true, ↓reduceIte, Act.put, List.setIfInBounds_toArray, List.set_cons_zero, List.set_cons_succ]
  rw [eb]
  generalize (x 0).v = y0h at *
  generalize (x 1).v = y1h at *
  generalize (x 2).v = y2h at *
  generalize (x 3).v = y3h at *
  generalize (x 4).v = y4h at *
  generalize (x 5).v = y5h at *
  generalize (x 6).lo = gh at *
  clear hR hlo hdis hS hx ex eb
  replace V := hU
  replace B := B.tr hG
  replace Tx := hG.blk Tx
  replace Cx := hide ((unhide Cx).up hG)
  clear hG hU
  obtain ⟨XX, hXX⟩ : ∃ z, Xa * Xg = z := ⟨_, rfl⟩
  obtain ⟨XY, hXY⟩ : ∃ z, Xb * Xg = z := ⟨_, rfl⟩
  have hD0 := divides_eq Xa Xb Xg
  rw [hXX] at Cx hD0
  rw [hXY] at Ch hD0
  obtain ⟨XG, hXG⟩ : ∃ z : Int, z = ((Nat.gcd XX.natAbs XY.natAbs : Nat) : Int) := ⟨_, rfl⟩
  rw [← hXG] at hD0
  have HD := hide (And.intro hD0.1 (And.intro hD0.2.1 (And.intro hD0.2.2 (And.intro (show 0 ≤ XG from by omega) (show XG = 0 → XX = 0 ∧ XY = 0 from fun h => by
    rw [hXG] at h
    have h1 := Nat.gcd_eq_zero_iff.1 (show Nat.gcd XX.natAbs XY.natAbs = 0 from by omega)
    omega)))))
  have HG := hide hXG
  clear hD0 hXX hXY hXG
  obtain ⟨lx0, lx1, -⟩ := cells2 Tx
  obtain ⟨lh0, lh1, -⟩ := cells2 Th
  go_wp2_with fail
  refine (gcd2_rd (M := 70368744175616) (heap_alloc_new _ _) (((unhide Cx).rd (by omega)).up (up_alloc _ _)) (((unhide Ch).rd (by omega)).up (up_alloc _ _)) (by omega)).mono ?_
  rintro e w3 ⟨v3, rfl, nd0, u3⟩
  rw [← unhide HG] at nd0
  have u3' := (up_alloc _ _).tr u3
  obtain ⟨bd, aod, nd, capd, es⟩ := (nd0.rd (Nat.le_refl _)).agg
  subst es
  have D := u3'.tr (up_alloc w3 (.cells #[.bool bd, .slice aod nd capd] 26))
  have Td : (w3.alloc (.cells #[.bool bd, .slice aod nd capd] 26)).heap[w3.heap.size]? = some (.cells #[.bool bd, .slice aod nd capd] 26 (0, 0)) := heap_alloc_new w3 _
  have Cd := hide (nd0.rc.up (up_alloc w3 (.cells #[.bool bd, .slice aod nd capd] 26)))
  replace V := V.tr D
  replace B := B.tr D
  replace Tx := D.blk Tx
  replace Cx := hide ((unhide Cx).up D)
  replace Th := D.blk Th
  replace Ch := hide ((unhide Ch).up D)
  clear D nd0
  clear u3 u3' lx0 lx1 lh0 lh1 HG
  go_wp2_with fail
  refine (of_rd 0 _ (by decide) (by decide)).mono ?_
  rintro e w4 ⟨v4, rfl, nz0, u4⟩
  obtain ⟨bz, aoz, nz, capz, es⟩ := (nz0.rd (Nat.le_refl _)).agg
  subst es
  have D := u4.tr (up_alloc w4 (.cells #[.bool bz, .slice aoz nz capz] 26))
  have Tz : (w4.alloc (.cells #[.bool bz, .slice aoz nz capz] 26)).heap[w4.heap.size]? = some (.cells #[.bool bz, .slice aoz nz capz] 26 (0, 0)) := heap_alloc_new w4 _
  have Cz := hide (nz0.rc.up (up_alloc w4 (.cells #[.bool bz, .slice aoz nz capz] 26)))
  replace V := V.tr D
  replace B := B.tr D
  replace Tx := D.blk Tx
  replace Cx := hide ((unhide Cx).up D)
  replace Th := D.blk Th
  replace Ch := hide ((unhide Ch).up D)
  replace Td := D.blk Td
  replace Cd := hide ((unhide Cd).up D)
  clear D nz0
  clear u4
  obtain ⟨ld0, ld1, -⟩ := cells2 Td
  obtain ⟨lz0, lz1, -⟩ := cells2 Tz
  go_wp2_with fail
  by_cases h0 : XG = 0
  · refine (cmp_rd (M := 70368744175616) ((unhide Cd).rd (by omega)) ((unhide Cz).rd (by omega))).mono ?_
    rintro e v5 ⟨c5, rfl, hc5, D⟩
    rw [show cmpZ XG 0 = 0 from by rw [h0]; rfl] at hc5
    subst hc5
    replace V := V.tr D
    replace B := B.tr D
    replace Tx := D.blk Tx
    replace Cx := hide ((unhide Cx).up D)
    replace Th := D.blk Th
    replace Ch := hide ((unhide Ch).up D)
    replace Td := D.blk Td
    replace Cd := hide ((unhide Cd).up D)
    replace Tz := D.blk Tz
    replace Cz := hide ((unhide Cz).up D)
    clear D
    clear ld0 ld1 lz0 lz1
    obtain ⟨hx0, hy0⟩ := (unhide HD).2.2.2.2 h0
    obtain ⟨lx0, lx1, -⟩ := cells2 Tx
    obtain ⟨lh0, lh1, -⟩ := cells2 Th
    obtain ⟨lz0, lz1, -⟩ := cells2 Tz
    go_wp2_with fail
    refine (cmp_rd (M := 70368744175616) ((unhide Cx).rd (by omega)) ((unhide Cz).rd (by omega))).mono ?_
    rintro e v11 ⟨c11, rfl, hc11, D⟩
    rw [show cmpZ XX 0 = 0 from by rw [hx0]; rfl] at hc11
    subst hc11
    replace V := V.tr D
    replace B := B.tr D
    replace Tx := D.blk Tx
    replace Cx := hide ((unhide Cx).up D)
    replace Th := D.blk Th
    replace Ch := hide ((unhide Ch).up D)
    replace Tz := D.blk Tz
    replace Cz := hide ((unhide Cz).up D)
    clear D
    clear lx0 lx1 lh0 lh1 lz0 lz1
    obtain ⟨lh0, lh1, -⟩ := cells2 Th
    obtain ⟨lz0, lz1, -⟩ := cells2 Tz
    go_wp2_with fail
    refine (cmp_rd (M := 70368744175616) ((unhide Ch).rd (by omega)) ((unhide Cz).rd (by omega))).mono ?_
    rintro e v12 ⟨c12, rfl, hc12, D⟩
    rw [show cmpZ XY 0 = 0 from by rw [hy0]; rfl] at hc12
    subst hc12
    replace V := V.tr D
    replace B := B.tr D
    clear D
    clear lh0 lh1 lz0 lz1
    go_wp2_with fail
    refine (awake_any _ ((unhide HT).up V)).mono ?_
    rintro e w9 ⟨rfl, u9⟩
    go_wp2_with fail
    go_ret
    exact ⟨rfl, V.tr u9⟩

  · have hg0 := h0
    refine (cmp_rd (M := 70368744175616) ((unhide Cd).rd (by omega)) ((unhide Cz).rd (by omega))).mono ?_
    rintro e v6 ⟨c6, rfl, hc6, D⟩
    rw [show cmpZ XG 0 = 1 from cmpZ_gt (by have := (unhide HD).2.2.2.1; omega)] at hc6
    subst hc6
    replace V := V.tr D
    replace B := B.tr D
    replace Tx := D.blk Tx
    replace Cx := hide ((unhide Cx).up D)
    replace Th := D.blk Th
    replace Ch := hide ((unhide Ch).up D)
    replace Td := D.blk Td
    replace Cd := hide ((unhide Cd).up D)
    replace Tz := D.blk Tz
    replace Cz := hide ((unhide Cz).up D)
    clear D
    clear ld0 ld1 lz0 lz1
    obtain ⟨lx0, lx1, -⟩ := cells2 Tx
    obtain ⟨ld0, ld1, -⟩ := cells2 Td
    go_wp2_with fail
    refine (trunc_rd (M := 70368744175616) ((unhide Cx).rd (by omega)) ((unhide Cd).rd (by omega)) (by omega)).mono ?_
    rintro e t21 ⟨_, rfl, H, u⟩
    obtain ⟨aq, ar, rfl, nq0, nr0⟩ := H
    obtain ⟨bi, aoi, ni, capi, es⟩ := (nq0.rd (Nat.le_refl _)).agg
    subst es
    obtain ⟨br, aor, nr, capr, es⟩ := (nr0.rd (Nat.le_refl _)).agg
    subst es
    rw [show decide (XG ≠ 0) = true from by simpa using hg0]
    have D := u.tr ((up_alloc t21 (.cells #[.bool bi, .slice aoi ni capi] 26)).tr (up_alloc _ (.cells #[.bool br, .slice aor nr capr] 26)))
    have Tr := (two_blocks t21 (.cells #[.bool bi, .slice aoi ni capi] 26) (.cells #[.bool br, .slice aor nr capr] 26)).2
    have Cr := hide (nr0.rc.up ((up_alloc t21 (.cells #[.bool bi, .slice aoi ni capi] 26)).tr (up_alloc _ (.cells #[.bool br, .slice aor nr capr] 26))))
    replace V := V.tr D
    replace B := B.tr D
    replace Tx := D.blk Tx
    replace Cx := hide ((unhide Cx).up D)
    replace Th := D.blk Th
    replace Ch := hide ((unhide Ch).up D)
    replace Td := D.blk Td
    replace Cd := hide ((unhide Cd).up D)
    replace Tz := D.blk Tz
    replace Cz := hide ((unhide Cz).up D)
    clear D u nq0 nr0 lx0 lx1 ld0 ld1
    obtain ⟨lh0, lh1, -⟩ := cells2 Th
    obtain ⟨ld0, ld1, -⟩ := cells2 Td
    go_wp2_with fail
    refine (trunc_rd (M := 70368744175616) ((unhide Ch).rd (by omega)) ((unhide Cd).rd (by omega)) (by omega)).mono ?_
    rintro e t22 ⟨_, rfl, H, u⟩
    obtain ⟨aq, ar, rfl, nq0, nr0⟩ := H
    obtain ⟨bj, aoj, nj, capj, es⟩ := (nq0.rd (Nat.le_refl _)).agg
    subst es
    obtain ⟨bs, aos, ns, caps, es⟩ := (nr0.rd (Nat.le_refl _)).agg
    subst es
    rw [show decide (XG ≠ 0) = true from by simpa using hg0]
    have D := u.tr ((up_alloc t22 (.cells #[.bool bj, .slice aoj nj capj] 26)).tr (up_alloc _ (.cells #[.bool bs, .slice aos ns caps] 26)))
    have Ts := (two_blocks t22 (.cells #[.bool bj, .slice aoj nj capj] 26) (.cells #[.bool bs, .slice aos ns caps] 26)).2
    have Cs := hide (nr0.rc.up ((up_alloc t22 (.cells #[.bool bj, .slice aoj nj capj] 26)).tr (up_alloc _ (.cells #[.bool bs, .slice aos ns caps] 26))))
    replace V := V.tr D
    replace B := B.tr D
    replace Th := D.blk Th
    replace Ch := hide ((unhide Ch).up D)
    replace Td := D.blk Td
    replace Cd := hide ((unhide Cd).up D)
    replace Tz := D.blk Tz
    replace Cz := hide ((unhide Cz).up D)
    replace Tr := D.blk Tr
    replace Cr := hide ((unhide Cr).up D)
    clear D u nq0 nr0 lh0 lh1 ld0 ld1
    obtain ⟨lr0, lr1, -⟩ := cells2 Tr
    obtain ⟨ls0, ls1, -⟩ := cells2 Ts
    obtain ⟨ld0, ld1, -⟩ := cells2 Td
    obtain ⟨lz0, lz1, -⟩ := cells2 Tz
    go_wp2_with fail
    refine (cmp_rd (M := 70368744175616 + 1) ((unhide Cr).rd (by omega)) ((unhide Cz).rd (by omega))).mono ?_
    rintro e v23 ⟨c23, rfl, hc23, D⟩
    rw [show cmpZ (rz XX XG) 0 = 0 from by rw [(unhide HD).1]; rfl] at hc23
    subst hc23
    replace V := V.tr D
    replace B := B.tr D
    replace Ts := D.blk Ts
    replace Cs := hide ((unhide Cs).up D)
    replace Td := D.blk Td
    replace Cd := hide ((unhide Cd).up D)
    replace Tz := D.blk Tz
    replace Cz := hide ((unhide Cz).up D)
    clear D
    clear lr0 lr1 ls0 ls1 ld0 ld1 lz0 lz1
    obtain ⟨ls0, ls1, -⟩ := cells2 Ts
    obtain ⟨ld0, ld1, -⟩ := cells2 Td
    obtain ⟨lz0, lz1, -⟩ := cells2 Tz
    go_wp2_with fail
    refine (cmp_rd (M := 70368744175616 + 1) ((unhide Cs).rd (by omega)) ((unhide Cz).rd (by omega))).mono ?_
    rintro e v24 ⟨c24, rfl, hc24, D⟩
    rw [show cmpZ (rz XY XG) 0 = 0 from by rw [(unhide HD).2.1]; rfl] at hc24
    subst hc24
    replace V := V.tr D
    replace B := B.tr D
    replace Td := D.blk Td
    replace Cd := hide ((unhide Cd).up D)
    replace Tz := D.blk Tz
    replace Cz := hide ((unhide Cz).up D)
    clear D
    clear ls0 ls1 ld0 ld1 lz0 lz1
    obtain ⟨ld0, ld1, -⟩ := cells2 Td
    obtain ⟨lz0, lz1, -⟩ := cells2 Tz
    go_wp2_with fail
    refine (cmp_rd (M := 70368744175616) ((unhide Cd).rd (by omega)) ((unhide Cz).rd (by omega))).mono ?_
    rintro e v25 ⟨c25, rfl, hc25, D⟩
    rw [show cmpZ XG 0 = 1 from cmpZ_gt (by have := (unhide HD).2.2.2.1; omega)] at hc25
    subst hc25
    replace V := V.tr D
    replace B := B.tr D
    replace Td := D.blk Td
    replace Cd := hide ((unhide Cd).up D)
    replace Tz := D.blk Tz
    replace Cz := hide ((unhide Cz).up D)
    clear D
    clear ld0 ld1 lz0 lz1
    go_wp2_with fail
    rcases Int.lt_trichotomy Xg 0 with hb | hb | hb
    · have hz : cmpZ Xg 0 = -1 := cmpZ_lt hb
      obtain ⟨ok, hok⟩ : ∃ ok, ok = decide (Xg ≠ 0) := ⟨_, rfl⟩
      have HOK := hide hok
      obtain rfl : ok = true := by rw [hok]; simp; omega
      clear hok
      refine wp_region_knd (by kernel_rfl) w V [[], [0], [], [1, 2], [3]] [.val [] (fun _ g _ => g.v = .agg #[.bool bg, .slice aog ng capg]), .val [] (fun w g _ => NumD (Xg) (ng) w g.lo g.hi g.v), .val [] (fun _ g _ => g.v = .agg #[.bool bz, .slice aoz nz capz]), .val [] (fun _ g _ => g.v = .int .i64 (-1)), .val [] (fun _ g _ => g.v = .bool false)] (by kernel_rfl) (by kernel_rfl) rfl ⟨trivial, trivial, trivial, trivial, trivial, trivial⟩ ⟨fun _ _ _ _ _ h => h, fun _ _ _ _ hb h => h.keep hb, fun _ _ _ _ _ h => h, fun _ _ _ _ _ h => h, fun _ _ _ _ _ h => h, trivial⟩ ⟨?_, ?_, ?_, ?_, ?_, trivial⟩ ?_
      · intro x w1 K hU hS hO hd hK
        obtain ⟨k0, k1, -⟩ := cells2 ((B.tr (Up.tr (up_drew _) (hS.upb rfl))).blk (unhide K3).2.2)
        clear hd
        refine Veil.mk ?_; simp only [kgoal, putsFrom, depsOf, pu0, pu1, pu2, pu3, Nat.zero_add, Nat.reduceAdd, Nat.reduceBEq, Bool.or_false, Bool.false_or, Bool.or_true, Bool.true_or, Bool.false_eq_true, ↓reduceIte, Act.put, List.setIfInBounds_toArray, List.set_cons_zero, List.set_cons_succ]
        go_simp
        exact hK _ _ (Up.refl _) rfl
      · intro x w1 K hU hS hO hd hK
        have h0 : (x 0).v = .agg #[.bool bg, .slice aog ng capg] := kval (hd 0 (by decide)).1 rfl
        clear hd
        refine Veil.mk ?_; simp only [kgoal, putsFrom, depsOf, pu0, pu1, pu2, pu3, Nat.zero_add, Nat.reduceAdd, Nat.reduceBEq, Bool.or_false, Bool.false_or, Bool.or_true, Bool.true_or, Bool.false_eq_true, ↓reduceIte, Act.put, List.setIfInBounds_toArray, List.set_cons_zero, List.set_cons_succ]
        simp only [h0]
        go_simp
        refine (c_rd (M := ng) (((unhide Rg).up hU)) (by omega)).mono ?_
        rintro e w2 ⟨v2, rfl, n2, u2⟩
        exact hK _ _ u2 n2
      · intro x w1 K hU hS hO hd hK
        obtain ⟨k0, k1, -⟩ := cells2 ((Up.tr (up_drew _) (hS.upb rfl)).blk Tz)
        clear hd
        refine Veil.mk ?_; simp only [kgoal, putsFrom, depsOf, pu0, pu1, pu2, pu3, Nat.zero_add, Nat.reduceAdd, Nat.reduceBEq, Bool.or_false, Bool.false_or, Bool.or_true, Bool.true_or, Bool.false_eq_true, ↓reduceIte, Act.put, List.setIfInBounds_toArray, List.set_cons_zero, List.set_cons_succ]
        go_simp
        exact hK _ _ (Up.refl _) rfl
      · intro x w1 K hU hS hO hd hK
        have h1 : NumD (Xg) (ng) w1 (x 1).lo (x 1).hi (x 1).v := kval (hd 1 (by decide)).1 rfl
        have h2 : (x 2).v = .agg #[.bool bz, .slice aoz nz capz] := kval (hd 2 (by decide)).1 rfl
        clear hd
        refine Veil.mk ?_; simp only [kgoal, putsFrom, depsOf, pu0, pu1, pu2, pu3, Nat.zero_add, Nat.reduceAdd, Nat.reduceBEq, Bool.or_false, Bool.false_or, Bool.or_true, Bool.true_or, Bool.false_eq_true, ↓reduceIte, Act.put, List.setIfInBounds_toArray, List.set_cons_zero, List.set_cons_succ]
        simp only [h2]
        go_simp
        refine (cmp_rd (M := 35184372087808) (h1.rd (by omega)) (((unhide Cz).rd (M' := 35184372087808) (by omega)).up (Up.tr (up_drew _) (hS.upb rfl)))).mono ?_
        rintro e w2 ⟨v2, rfl, n2, u2⟩
        rw [hz] at n2
        exact hK _ _ u2 n2
      · intro x w1 K hU hS hO hd hK
        have h3 : (x 3).v = .int .i64 (-1) := kval (hd 3 (by decide)).1 rfl
        clear hd
        refine Veil.mk ?_; simp only [kgoal, putsFrom, depsOf, pu0, pu1, pu2, pu3, Nat.zero_add, Nat.reduceAdd, Nat.reduceBEq, Bool.or_false, Bool.false_or, Bool.or_true, Bool.true_or, Bool.false_eq_true, ↓reduceIte, Act.put, List.setIfInBounds_toArray, List.set_cons_zero, List.set_cons_succ]
        simp only [h3]
        go_simp
        exact hK _ _ (Up.refl _) rfl
      intro x w1 hU hS hR hlo hdis
      have hfin : (x 4).v = .bool false := kval (hR 4 (by decide)) rfl
      have hG := Up.tr (up_drew _) (hS.upb rfl)
      refine Veil.mk ?_; simp only [kgoal, putsFrom, depsOf, pu0, pu1, pu2, pu3, Nat.zero_add, Nat.reduceAdd, Nat.reduceBEq, Bool.or_false, Bool.false_or, Bool.or_true, Bool.true_or, Bool.false_eq_true, ↓reduceIte, Act.put, List.setIfInBounds_toArray, List.set_cons_zero, List.set_cons_succ]
      rw [hfin]
      generalize (x 0).v = z0e
      generalize (x 1).v = z1e
      generalize (x 2).v = z2e
      generalize (x 3).v = z3e
      clear hR hlo hdis hS hfin
      replace V := hU
      replace B := B.tr hG
      replace Td := hG.blk Td
      replace Tz := hG.blk Tz
      replace Cd := hide ((unhide Cd).up hG)
      replace Cz := hide ((unhide Cz).up hG)
      clear hG hU
      go_wp2_with fail
      refine wp_region_knd (by kernel_rfl) w V [[], [], [1], [0, 2], [3], [4, 3], [4, 3], [4, 3], [], [], [8, 5, 4, 3], [9, 6, 4, 3], [7]] [.val [] (fun _ g _ => g.v = .agg #[.bool bd, .slice aod nd capd]), .val [] (fun _ g _ => g.v = .agg #[.bool bg, .slice aog ng capg]), .val [] (fun w g _ => NumD (Xg) (ng) w g.lo g.hi g.v), .val [] (fun w g _ => DivsIn (Int.tdiv XG Xg) (rz XG Xg) true (70368744175616 + 1) w g.lo g.hi g.v), .val [3] (fun _ g vs => vs = [g.v]), .val [4] (fun _ g vs => ∃ b1 b2, vs = [.tuple #[g.v, b1, b2]]), .val [4] (fun _ g vs => ∃ b0 b2, vs = [.tuple #[b0, g.v, b2]]), .val [4] (fun _ g vs => ∃ b0 b1, vs = [.tuple #[b0, b1, g.v]]), .box 26 2, .box 26 2, .sto 8 5 26 2, .sto 9 6 26 2, .val [7] (fun _ g vs => vs = [g.v])] (by kernel_rfl) (by kernel_rfl) rfl ⟨trivial, trivial, trivial, trivial, trivial, trivial, trivial, trivial, trivial, trivial, trivial, trivial, trivial, trivial⟩ ⟨fun _ _ _ _ _ h => h, fun _ _ _ _ _ h => h, fun _ _ _ _ hb h => h.keep hb, fun _ _ _ _ hb h => h.keep hb, fun _ _ _ _ _ h => h, fun _ _ _ _ _ h => h, fun _ _ _ _ _ h => h, fun _ _ _ _ _ h => h, trivial, trivial, trivial, trivial, fun _ _ _ _ _ h => h, trivial⟩ ⟨?_, ?_, ?_, ?_, ?_, ?_, ?_, ?_, ?_, ?_, ?_, ?_, ?_, trivial⟩ ?_
      · intro x w1 K hU hS hO hd hK
        obtain ⟨k0, k1, -⟩ := cells2 ((Up.tr (up_drew _) (hS.upb rfl)).blk Td)
        clear hd
        refine Veil.mk ?_; simp only [kgoal, putsFrom, depsOf, pu0, pu1, pu2, pu3, Nat.zero_add, Nat.reduceAdd, Nat.reduceBEq, Bool.or_false, Bool.false_or, Bool.or_true, Bool.true_or, Bool.false_eq_true, ↓reduceIte, Act.put, List.setIfInBounds_toArray, List.set_cons_zero, List.set_cons_succ]
        go_simp
        exact hK _ _ (Up.refl _) rfl
      · intro x w1 K hU hS hO hd hK
        obtain ⟨k0, k1, -⟩ := cells2 ((B.tr (Up.tr (up_drew _) (hS.upb rfl))).blk (unhide K3).2.2)
        clear hd
        refine Veil.mk ?_; simp only [kgoal, putsFrom, depsOf, pu0, pu1, pu2, pu3, Nat.zero_add, Nat.reduceAdd, Nat.reduceBEq, Bool.or_false, Bool.false_or, Bool.or_true, Bool.true_or, Bool.false_eq_true, ↓reduceIte, Act.put, List.setIfInBounds_toArray, List.set_cons_zero, List.set_cons_succ]
        go_simp
        exact hK _ _ (Up.refl _) rfl
      · intro x w1 K hU hS hO hd hK
        have h1 : (x 1).v = .agg #[.bool bg, .slice aog ng capg] := kval (hd 1 (by decide)).1 rfl
        clear hd
        refine Veil.mk ?_; simp only [kgoal, putsFrom, depsOf, pu0, pu1, pu2, pu3, Nat.zero_add, Nat.reduceAdd, Nat.reduceBEq, Bool.or_false, Bool.false_or, Bool.or_true, Bool.true_or, Bool.false_eq_true, ↓reduceIte, Act.put, List.setIfInBounds_toArray, List.set_cons_zero, List.set_cons_succ]
        simp only [h1]
        go_simp
        refine (c_rd (M := ng) (((unhide Rg).up hU)) (by omega)).mono ?_
        rintro e w2 ⟨v2, rfl, n2, u2⟩
        exact hK _ _ u2 n2
      · intro x w1 K hU hS hO hd hK
        have h0 : (x 0).v = .agg #[.bool bd, .slice aod nd capd] := kval (hd 0 (by decide)).1 rfl
        have h2 : NumD (Xg) (ng) w1 (x 2).lo (x 2).hi (x 2).v := kval (hd 2 (by decide)).1 rfl
        clear hd
        refine Veil.mk ?_; simp only [kgoal, putsFrom, depsOf, pu0, pu1, pu2, pu3, Nat.zero_add, Nat.reduceAdd, Nat.reduceBEq, Bool.or_false, Bool.false_or, Bool.or_true, Bool.true_or, Bool.false_eq_true, ↓reduceIte, Act.put, List.setIfInBounds_toArray, List.set_cons_zero, List.set_cons_succ]
        go_simp
        refine (trunc_rd (M := 70368744175616) (((unhide Cd).rd (M' := 70368744175616) (by omega)).up (Up.tr (up_drew _) (hS.upb rfl))) (h2.rd (by omega)) (by omega)).mono ?_
        rintro e w2 ⟨v2, rfl, n2, u2⟩
        rw [← unhide HOK] at n2
        exact hK _ _ u2 n2
      · intro x w1 K hU hS hO hd hK
        refine Veil.mk ?_; simp only [kgoal, putsFrom, depsOf, pu0, pu1, pu2, pu3, Nat.zero_add, Nat.reduceAdd, Nat.reduceBEq, Bool.or_false, Bool.false_or, Bool.or_true, Bool.true_or, Bool.false_eq_true, ↓reduceIte, Act.put, List.setIfInBounds_toArray, List.set_cons_zero, List.set_cons_succ]
        go_simp
        exact hK _ _ (Up.refl _) rfl
      · intro x w1 K hU hS hO hd hK
        have h3 : DivsIn (Int.tdiv XG Xg) (rz XG Xg) true (70368744175616 + 1) w1 (x 3).lo (x 3).hi (x 3).v := kval (hd 3 (by decide)).1 rfl
        obtain ⟨aq, ar, e0, nq, nr⟩ := h3
        have e1 : [(x 3).v] = [(x 4).v] := kval (hd 4 (by decide)).1 rfl
        have ej : (x 4).v = _ := (List.cons.inj e1).1.symm.trans e0
        obtain ⟨p1, p2, p3, p4, rfl⟩ := (nq.rd (Nat.le_refl _)).agg
        obtain ⟨p5, p6, p7, p8, rfl⟩ := (nr.rd (Nat.le_refl _)).agg
        clear nq nr
        clear hd
        refine Veil.mk ?_; simp only [kgoal, putsFrom, depsOf, pu0, pu1, pu2, pu3, Nat.zero_add, Nat.reduceAdd, Nat.reduceBEq, Bool.or_false, Bool.false_or, Bool.or_true, Bool.true_or, Bool.false_eq_true, ↓reduceIte, Act.put, List.setIfInBounds_toArray, List.set_cons_zero, List.set_cons_succ]
        go_simp
        exact hK _ _ (Up.refl _) ⟨_, _,  by show [(x 4).v] = _; rw [ej]; rfl⟩
      · intro x w1 K hU hS hO hd hK
        have h3 : DivsIn (Int.tdiv XG Xg) (rz XG Xg) true (70368744175616 + 1) w1 (x 3).lo (x 3).hi (x 3).v := kval (hd 3 (by decide)).1 rfl
        obtain ⟨aq, ar, e0, nq, nr⟩ := h3
        have e1 : [(x 3).v] = [(x 4).v] := kval (hd 4 (by decide)).1 rfl
        have ej : (x 4).v = _ := (List.cons.inj e1).1.symm.trans e0
        obtain ⟨p1, p2, p3, p4, rfl⟩ := (nq.rd (Nat.le_refl _)).agg
        obtain ⟨p5, p6, p7, p8, rfl⟩ := (nr.rd (Nat.le_refl _)).agg
        clear nq nr
        clear hd
        refine Veil.mk ?_; simp only [kgoal, putsFrom, depsOf, pu0, pu1, pu2, pu3, Nat.zero_add, Nat.reduceAdd, Nat.reduceBEq, Bool.or_false, Bool.false_or, Bool.or_true, Bool.true_or, Bool.false_eq_true, ↓reduceIte, Act.put, List.setIfInBounds_toArray, List.set_cons_zero, List.set_cons_succ]
        go_simp
        exact hK _ _ (Up.refl _) ⟨_, _,  by show [(x 4).v] = _; rw [ej]; rfl⟩
      · intro x w1 K hU hS hO hd hK
        have h3 : DivsIn (Int.tdiv XG Xg) (rz XG Xg) true (70368744175616 + 1) w1 (x 3).lo (x 3).hi (x 3).v := kval (hd 3 (by decide)).1 rfl
        obtain ⟨aq, ar, e0, nq, nr⟩ := h3
        have e1 : [(x 3).v] = [(x 4).v] := kval (hd 4 (by decide)).1 rfl
        have ej : (x 4).v = _ := (List.cons.inj e1).1.symm.trans e0
        obtain ⟨p1, p2, p3, p4, rfl⟩ := (nq.rd (Nat.le_refl _)).agg
        obtain ⟨p5, p6, p7, p8, rfl⟩ := (nr.rd (Nat.le_refl _)).agg
        clear nq nr
        clear hd
        refine Veil.mk ?_; simp only [kgoal, putsFrom, depsOf, pu0, pu1, pu2, pu3, Nat.zero_add, Nat.reduceAdd, Nat.reduceBEq, Bool.or_false, Bool.false_or, Bool.or_true, Bool.true_or, Bool.false_eq_true, ↓reduceIte, Act.put, List.setIfInBounds_toArray, List.set_cons_zero, List.set_cons_succ]
        go_simp
        exact hK _ _ (Up.refl _) ⟨_, _,  by show [(x 4).v] = _; rw [ej]; rfl⟩
      · intro x w1 K hU hS hO hd hK
        refine Veil.mk ?_; simp only [kgoal, putsFrom, depsOf, pu0, pu1, pu2, pu3, Nat.zero_add, Nat.reduceAdd, Nat.reduceBEq, Bool.or_false, Bool.false_or, Bool.or_true, Bool.true_or, Bool.false_eq_true, ↓reduceIte, Act.put, List.setIfInBounds_toArray, List.set_cons_zero, List.set_cons_succ]
        go_simp
        exact hK _ _ (up_alloc _ _) (box_new rfl hS)
      · intro x w1 K hU hS hO hd hK
        refine Veil.mk ?_; simp only [kgoal, putsFrom, depsOf, pu0, pu1, pu2, pu3, Nat.zero_add, Nat.reduceAdd, Nat.reduceBEq, Bool.or_false, Bool.false_or, Bool.or_true, Bool.true_or, Bool.false_eq_true, ↓reduceIte, Act.put, List.setIfInBounds_toArray, List.set_cons_zero, List.set_cons_succ]
        go_simp
        exact hK _ _ (up_alloc _ _) (box_new rfl hS)
      · intro x w1 K hU hS hO hd hK
        obtain ⟨c0, c1, eb, hb⟩ := kbox2 (hd 8 (by decide)).1 rfl
        have h3 : DivsIn (Int.tdiv XG Xg) (rz XG Xg) true (70368744175616 + 1) w1 (x 3).lo (x 3).hi (x 3).v := kval (hd 3 (by decide)).1 rfl
        obtain ⟨aq, ar, e0, nq, nr⟩ := h3
        have e1 : [(x 3).v] = [(x 4).v] := kval (hd 4 (by decide)).1 rfl
        have ej : (x 4).v = _ := (List.cons.inj e1).1.symm.trans e0
        have es : ∃ b1 b2, [(x 4).v] = [Value.tuple #[(x 5).v, b1, b2]] := kval (hd 5 (by decide)).1 rfl
        obtain ⟨b1, b2, es⟩ := es
        rw [ej] at es
        obtain ⟨p1, p2, p3, p4, ea⟩ := (nq.rd (Nat.le_refl _)).agg
        replace es := (tup3 (List.cons.inj es).1).1.symm
        rw [ea] at es
        clear nq nr e0 e1 ej ea
        obtain ⟨d0, d1, f0, f1, -⟩ := cells2 hb
        clear hd
        refine Veil.mk ?_; simp only [kgoal, putsFrom, depsOf, pu0, pu1, pu2, pu3, Nat.zero_add, Nat.reduceAdd, Nat.reduceBEq, Bool.or_false, Bool.false_or, Bool.or_true, Bool.true_or, Bool.false_eq_true, ↓reduceIte, Act.put, List.setIfInBounds_toArray, List.set_cons_zero, List.set_cons_succ]
        go_simp
        exact hK _ _ (sto_two hb _ _).1 ⟨_, rfl, es, (sto_two hb _ _).2⟩
      · intro x w1 K hU hS hO hd hK
        obtain ⟨c0, c1, eb, hb⟩ := kbox2 (hd 9 (by decide)).1 rfl
        have h3 : DivsIn (Int.tdiv XG Xg) (rz XG Xg) true (70368744175616 + 1) w1 (x 3).lo (x 3).hi (x 3).v := kval (hd 3 (by decide)).1 rfl
        obtain ⟨aq, ar, e0, nq, nr⟩ := h3
        have e1 : [(x 3).v] = [(x 4).v] := kval (hd 4 (by decide)).1 rfl
        have ej : (x 4).v = _ := (List.cons.inj e1).1.symm.trans e0
        have es : ∃ b0 b2, [(x 4).v] = [Value.tuple #[b0, (x 6).v, b2]] := kval (hd 6 (by decide)).1 rfl
        obtain ⟨b0, b2, es⟩ := es
        rw [ej] at es
        obtain ⟨p1, p2, p3, p4, ea⟩ := (nr.rd (Nat.le_refl _)).agg
        replace es := (tup3 (List.cons.inj es).1).2.1.symm
        rw [ea] at es
        clear nq nr e0 e1 ej ea
        obtain ⟨d0, d1, f0, f1, -⟩ := cells2 hb
        clear hd
        refine Veil.mk ?_; simp only [kgoal, putsFrom, depsOf, pu0, pu1, pu2, pu3, Nat.zero_add, Nat.reduceAdd, Nat.reduceBEq, Bool.or_false, Bool.false_or, Bool.or_true, Bool.true_or, Bool.false_eq_true, ↓reduceIte, Act.put, List.setIfInBounds_toArray, List.set_cons_zero, List.set_cons_succ]
        go_simp
        exact hK _ _ (sto_two hb _ _).1 ⟨_, rfl, es, (sto_two hb _ _).2⟩
      · intro x w1 K hU hS hO hd hK
        refine Veil.mk ?_; simp only [kgoal, putsFrom, depsOf, pu0, pu1, pu2, pu3, Nat.zero_add, Nat.reduceAdd, Nat.reduceBEq, Bool.or_false, Bool.false_or, Bool.or_true, Bool.true_or, Bool.false_eq_true, ↓reduceIte, Act.put, List.setIfInBounds_toArray, List.set_cons_zero, List.set_cons_succ]
        go_simp
        exact hK _ _ (Up.refl _) rfl
      intro x w1 hU hS hR hlo hdis
      have hG := hS.upb rfl
      obtain ⟨eb1, lb1⟩ := kbox (hR 8 (by decide)) rfl
      obtain ⟨eb2, lb2⟩ := kbox (hR 9 (by decide)) rfl
      have hv : DivsIn (Int.tdiv XG Xg) (rz XG Xg) true (70368744175616 + 1) w1 (x 3).lo (x 3).hi (x 3).v := kval (hR 3 (by decide)) rfl
      obtain ⟨aq, ar, e0, nq', nr'⟩ := hv
      have e1 : [(x 3).v] = [(x 4).v] := kval (hR 4 (by decide)) rfl
      have ej : (x 4).v = _ := (List.cons.inj e1).1.symm.trans e0
      have f0 : ∃ b c, [(x 4).v] = [Value.tuple #[(x 5).v, b, c]] := kval (hR 5 (by decide)) rfl
      obtain ⟨_, _, f0⟩ := f0
      have f1 : ∃ b c, [(x 4).v] = [Value.tuple #[b, (x 6).v, c]] := kval (hR 6 (by decide)) rfl
      obtain ⟨_, _, f1⟩ := f1
      have f2 : ∃ b c, [(x 4).v] = [Value.tuple #[b, c, (x 7).v]] := kval (hR 7 (by decide)) rfl
      obtain ⟨_, _, f2⟩ := f2
      have fa : [(x 7).v] = [(x 12).v] := kval (hR 12 (by decide)) rfl
      obtain ⟨cs1, -, q1, Tu⟩ := ksto (hR 10 (by decide)) rfl
      obtain ⟨cs2, -, q2, Tt⟩ := ksto (hR 11 (by decide)) rfl
      rw [ej] at f0 f1 f2
      replace f0 := (tup3 (List.cons.inj f0).1).1.symm
      replace f1 := (tup3 (List.cons.inj f1).1).2.1.symm
      replace f2 := (tup3 (List.cons.inj f2).1).2.2.symm
      have fa' : (x 12).v = .bool true := by rw [← f2]; exact (List.cons.inj fa).1.symm
      obtain ⟨bu, aou, nu, capu, eau⟩ := (nq'.rd (Nat.le_refl _)).agg
      subst eau
      rw [f0] at q1
      cases q1
      have Cu := hide nq'.rc
      obtain ⟨bt, aot, nt, capt, eat⟩ := (nr'.rd (Nat.le_refl _)).agg
      subst eat
      rw [f1] at q2
      cases q2
      have Ct := hide nr'.rc
      refine Veil.mk ?_; simp only [kgoal, putsFrom, depsOf, pu0, pu1, pu2, pu3, Nat.zero_add, Nat.reduceAdd, Nat.reduceBEq, Bool.or_false, Bool.false_or, Bool.or_true, Bool.true_or, Bool.false_eq_true, ↓reduceIte, Act.put, List.setIfInBounds_toArray, List.set_cons_zero, List.set_cons_succ]
      rw [eb1, eb2, fa']
      generalize (x 0).v = y0u at *
      generalize (x 1).v = y1u at *
      generalize (x 2).v = y2u at *
      generalize (x 3).v = y3u at *
      generalize (x 4).v = y4u at *
      generalize (x 5).v = y5u at *
      generalize (x 6).v = y6u at *
      generalize (x 7).v = y7u at *
      generalize (x 8).lo = gu at *
      generalize (x 9).lo = gt at *
      replace V := hU
      have D := Up.tr (up_drew _) hG
      clear hR hlo hdis hS hG hU nq' nr' e0 e1 ej f0 f1 f2 fa fa' eb1 eb2
      replace Tz := D.blk Tz
      replace Cz := hide ((unhide Cz).up D)
      replace B := B.tr D
      clear D
      obtain ⟨lt0, lt1, -⟩ := cells2 Tt
      obtain ⟨lz0, lz1, -⟩ := cells2 Tz
      go_wp2_with fail
      refine (cmp_rd (M := 70368744175616 + 1) ((unhide Ct).rd (by omega)) ((unhide Cz).rd (by omega))).mono ?_
      rintro e v31 ⟨c31, rfl, hc31, D⟩
      rw [show cmpZ (rz XG Xg) 0 = 0 from by rw [(unhide HD).2.2.1]; rfl] at hc31
      subst hc31
      replace V := V.tr D
      replace B := B.tr D
      clear D
      clear lt0 lt1 lz0 lz1
      go_wp2_with fail
      refine (awake_any _ ((unhide HT).up V)).mono ?_
      rintro e w9 ⟨rfl, u9⟩
      go_wp2_with fail
      go_ret
      exact ⟨rfl, V.tr u9⟩

    · have hz : cmpZ Xg 0 = 0 := by rw [hb]; rfl
      refine wp_region_knd (by kernel_rfl) w V [[], [0], [], [1, 2], [3]] [.val [] (fun _ g _ => g.v = .agg #[.bool bg, .slice aog ng capg]), .val [] (fun w g _ => NumD (Xg) (ng) w g.lo g.hi g.v), .val [] (fun _ g _ => g.v = .agg #[.bool bz, .slice aoz nz capz]), .val [] (fun _ g _ => g.v = .int .i64 (0)), .val [] (fun _ g _ => g.v = .bool true)] (by kernel_rfl) (by kernel_rfl) rfl ⟨trivial, trivial, trivial, trivial, trivial, trivial⟩ ⟨fun _ _ _ _ _ h => h, fun _ _ _ _ hb h => h.keep hb, fun _ _ _ _ _ h => h, fun _ _ _ _ _ h => h, fun _ _ _ _ _ h => h, trivial⟩ ⟨?_, ?_, ?_, ?_, ?_, trivial⟩ ?_
      · intro x w1 K hU hS hO hd hK
        obtain ⟨k0, k1, -⟩ := cells2 ((B.tr (Up.tr (up_drew _) (hS.upb rfl))).blk (unhide K3).2.2)
        clear hd
        refine Veil.mk ?_; simp only [kgoal, putsFrom, depsOf, pu0, pu1, pu2, pu3, Nat.zero_add, Nat.reduceAdd, Nat.reduceBEq, Bool.or_false, Bool.false_or, Bool.or_true, Bool.true_or, Bool.false_eq_true, ↓reduceIte, Act.put, List.setIfInBounds_toArray, List.set_cons_zero, List.set_cons_succ]
        go_simp
        exact hK _ _ (Up.refl _) rfl
      · intro x w1 K hU hS hO hd hK
        have h0 : (x 0).v = .agg #[.bool bg, .slice aog ng capg] := kval (hd 0 (by decide)).1 rfl
        clear hd
        refine Veil.mk ?_; simp only [kgoal, putsFrom, depsOf, pu0, pu1, pu2, pu3, Nat.zero_add, Nat.reduceAdd, Nat.reduceBEq, Bool.or_false, Bool.false_or, Bool.or_true, Bool.true_or, Bool.false_eq_true, ↓reduceIte, Act.put, List.setIfInBounds_toArray, List.set_cons_zero, List.set_cons_succ]
        simp only [h0]
        go_simp
        refine (c_rd (M := ng) (((unhide Rg).up hU)) (by omega)).mono ?_
        rintro e w2 ⟨v2, rfl, n2, u2⟩
        exact hK _ _ u2 n2
      · intro x w1 K hU hS hO hd hK
        obtain ⟨k0, k1, -⟩ := cells2 ((Up.tr (up_drew _) (hS.upb rfl)).blk Tz)
        clear hd
        refine Veil.mk ?_; simp only [kgoal, putsFrom, depsOf, pu0, pu1, pu2, pu3, Nat.zero_add, Nat.reduceAdd, Nat.reduceBEq, Bool.or_false, Bool.false_or, Bool.or_true, Bool.true_or, Bool.false_eq_true, ↓reduceIte, Act.put, List.setIfInBounds_toArray, List.set_cons_zero, List.set_cons_succ]
        go_simp
        exact hK _ _ (Up.refl _) rfl
      · intro x w1 K hU hS hO hd hK
        have h1 : NumD (Xg) (ng) w1 (x 1).lo (x 1).hi (x 1).v := kval (hd 1 (by decide)).1 rfl
        have h2 : (x 2).v = .agg #[.bool bz, .slice aoz nz capz] := kval (hd 2 (by decide)).1 rfl
        clear hd
        refine Veil.mk ?_; simp only [kgoal, putsFrom, depsOf, pu0, pu1, pu2, pu3, Nat.zero_add, Nat.reduceAdd, Nat.reduceBEq, Bool.or_false, Bool.false_or, Bool.or_true, Bool.true_or, Bool.false_eq_true, ↓reduceIte, Act.put, List.setIfInBounds_toArray, List.set_cons_zero, List.set_cons_succ]
        simp only [h2]
        go_simp
        refine (cmp_rd (M := 35184372087808) (h1.rd (by omega)) (((unhide Cz).rd (M' := 35184372087808) (by omega)).up (Up.tr (up_drew _) (hS.upb rfl)))).mono ?_
        rintro e w2 ⟨v2, rfl, n2, u2⟩
        rw [hz] at n2
        exact hK _ _ u2 n2
      · intro x w1 K hU hS hO hd hK
        have h3 : (x 3).v = .int .i64 (0) := kval (hd 3 (by decide)).1 rfl
        clear hd
        refine Veil.mk ?_; simp only [kgoal, putsFrom, depsOf, pu0, pu1, pu2, pu3, Nat.zero_add, Nat.reduceAdd, Nat.reduceBEq, Bool.or_false, Bool.false_or, Bool.or_true, Bool.true_or, Bool.false_eq_true, ↓reduceIte, Act.put, List.setIfInBounds_toArray, List.set_cons_zero, List.set_cons_succ]
        simp only [h3]
        go_simp
        exact hK _ _ (Up.refl _) rfl
      intro x w1 hU hS hR hlo hdis
      have hfin : (x 4).v = .bool true := kval (hR 4 (by decide)) rfl
      have hG := Up.tr (up_drew _) (hS.upb rfl)
      refine Veil.mk ?_; simp only [kgoal, putsFrom, depsOf, pu0, pu1, pu2, pu3, Nat.zero_add, Nat.reduceAdd, Nat.reduceBEq, Bool.or_false, Bool.false_or, Bool.or_true, Bool.true_or, Bool.false_eq_true, ↓reduceIte, Act.put, List.setIfInBounds_toArray, List.set_cons_zero, List.set_cons_succ]
      rw [hfin]
      generalize (x 0).v = z0e
      generalize (x 1).v = z1e
      generalize (x 2).v = z2e
      generalize (x 3).v = z3e
      clear hR hlo hdis hS hfin
      replace V := hU
      replace B := B.tr hG
      replace Td := hG.blk Td
      replace Tz := hG.blk Tz
      replace Cd := hide ((unhide Cd).up hG)
      replace Cz := hide ((unhide Cz).up hG)
      clear hG hU
      go_wp2_with fail
      refine (awake_any _ ((unhide HT).up V)).mono ?_
      rintro e w9 ⟨rfl, u9⟩
      go_wp2_with fail
      go_ret
      exact ⟨rfl, V.tr u9⟩

    · have hz : cmpZ Xg 0 = 1 := cmpZ_gt hb
      obtain ⟨ok, hok⟩ : ∃ ok, ok = decide (Xg ≠ 0) := ⟨_, rfl⟩
      have HOK := hide hok
      obtain rfl : ok = true := by rw [hok]; simp; omega
      clear hok
      refine wp_region_knd (by kernel_rfl) w V [[], [0], [], [1, 2], [3]] [.val [] (fun _ g _ => g.v = .agg #[.bool bg, .slice aog ng capg]), .val [] (fun w g _ => NumD (Xg) (ng) w g.lo g.hi g.v), .val [] (fun _ g _ => g.v = .agg #[.bool bz, .slice aoz nz capz]), .val [] (fun _ g _ => g.v = .int .i64 (1)), .val [] (fun _ g _ => g.v = .bool false)] (by kernel_rfl) (by kernel_rfl) rfl ⟨trivial, trivial, trivial, trivial, trivial, trivial⟩ ⟨fun _ _ _ _ _ h => h, fun _ _ _ _ hb h => h.keep hb, fun _ _ _ _ _ h => h, fun _ _ _ _ _ h => h, fun _ _ _ _ _ h => h, trivial⟩ ⟨?_, ?_, ?_, ?_, ?_, trivial⟩ ?_
      · intro x w1 K hU hS hO hd hK
        obtain ⟨k0, k1, -⟩ := cells2 ((B.tr (Up.tr (up_drew _) (hS.upb rfl))).blk (unhide K3).2.2)
        clear hd
        refine Veil.mk ?_; simp only [kgoal, putsFrom, depsOf, pu0, pu1, pu2, pu3, Nat.zero_add, Nat.reduceAdd, Nat.reduceBEq, Bool.or_false, Bool.false_or, Bool.or_true, Bool.true_or, Bool.false_eq_true, ↓reduceIte, Act.put, List.setIfInBounds_toArray, List.set_cons_zero, List.set_cons_succ]
        go_simp
        exact hK _ _ (Up.refl _) rfl
      · intro x w1 K hU hS hO hd hK
        have h0 : (x 0).v = .agg #[.bool bg, .slice aog ng capg] := kval (hd 0 (by decide)).1 rfl
        clear hd
        refine Veil.mk ?_; simp only [kgoal, putsFrom, depsOf, pu0, pu1, pu2, pu3, Nat.zero_add, Nat.reduceAdd, Nat.reduceBEq, Bool.or_false, Bool.false_or, Bool.or_true, Bool.true_or, Bool.false_eq_true, ↓reduceIte, Act.put, List.setIfInBounds_toArray, List.set_cons_zero, List.set_cons_succ]
        simp only [h0]
        go_simp
        refine (c_rd (M := ng) (((unhide Rg).up hU)) (by omega)).mono ?_
        rintro e w2 ⟨v2, rfl, n2, u2⟩
        exact hK _ _ u2 n2
      · intro x w1 K hU hS hO hd hK
        obtain ⟨k0, k1, -⟩ := cells2 ((Up.tr (up_drew _) (hS.upb rfl)).blk Tz)
        clear hd
        refine Veil.mk ?_; simp only [kgoal, putsFrom, depsOf, pu0, pu1, pu2, pu3, Nat.zero_add, Nat.reduceAdd, Nat.reduceBEq, Bool.or_false, Bool.false_or, Bool.or_true, Bool.true_or, Bool.false_eq_true, ↓reduceIte, Act.put, List.setIfInBounds_toArray, List.set_cons_zero, List.set_cons_succ]
        go_simp
        exact hK _ _ (Up.refl _) rfl
      · intro x w1 K hU hS hO hd hK
        have h1 : NumD (Xg) (ng) w1 (x 1).lo (x 1).hi (x 1).v := kval (hd 1 (by decide)).1 rfl
        have h2 : (x 2).v = .agg #[.bool bz, .slice aoz nz capz] := kval (hd 2 (by decide)).1 rfl
        clear hd
        refine Veil.mk ?_; simp only [kgoal, putsFrom, depsOf, pu0, pu1, pu2, pu3, Nat.zero_add, Nat.reduceAdd, Nat.reduceBEq, Bool.or_false, Bool.false_or, Bool.or_true, Bool.true_or, Bool.false_eq_true, ↓reduceIte, Act.put, List.setIfInBounds_toArray, List.set_cons_zero, List.set_cons_succ]
        simp only [h2]
        go_simp
        refine (cmp_rd (M := 35184372087808) (h1.rd (by omega)) (((unhide Cz).rd (M' := 35184372087808) (by omega)).up (Up.tr (up_drew _) (hS.upb rfl)))).mono ?_
        rintro e w2 ⟨v2, rfl, n2, u2⟩
        rw [hz] at n2
        exact hK _ _ u2 n2
      · intro x w1 K hU hS hO hd hK
        have h3 : (x 3).v = .int .i64 (1) := kval (hd 3 (by decide)).1 rfl
        clear hd
        refine Veil.mk ?_; simp only [kgoal, putsFrom, depsOf, pu0, pu1, pu2, pu3, Nat.zero_add, Nat.reduceAdd, Nat.reduceBEq, Bool.or_false, Bool.false_or, Bool.or_true, Bool.true_or, Bool.false_eq_true, ↓reduceIte, Act.put, List.setIfInBounds_toArray, List.set_cons_zero, List.set_cons_succ]
        simp only [h3]
        go_simp
        exact hK _ _ (Up.refl _) rfl
      intro x w1 hU hS hR hlo hdis
      have hfin : (x 4).v = .bool false := kval (hR 4 (by decide)) rfl
      have hG := Up.tr (up_drew _) (hS.upb rfl)
      refine Veil.mk ?_; simp only [kgoal, putsFrom, depsOf, pu0, pu1, pu2, pu3, Nat.zero_add, Nat.reduceAdd, Nat.reduceBEq, Bool.or_false, Bool.false_or, Bool.or_true, Bool.true_or, Bool.false_eq_true, ↓reduceIte, Act.put, List.setIfInBounds_toArray, List.set_cons_zero, List.set_cons_succ]
      rw [hfin]
      generalize (x 0).v = z0e
      generalize (x 1).v = z1e
      generalize (x 2).v = z2e
      generalize (x 3).v = z3e
      clear hR hlo hdis hS hfin
      replace V := hU
      replace B := B.tr hG
      replace Td := hG.blk Td
      replace Tz := hG.blk Tz
      replace Cd := hide ((unhide Cd).up hG)
      replace Cz := hide ((unhide Cz).up hG)
      clear hG hU
      go_wp2_with fail
      refine wp_region_knd (by kernel_rfl) w V [[], [], [1], [0, 2], [3], [4, 3], [4, 3], [4, 3], [], [], [8, 5, 4, 3], [9, 6, 4, 3], [7]] [.val [] (fun _ g _ => g.v = .agg #[.bool bd, .slice aod nd capd]), .val [] (fun _ g _ => g.v = .agg #[.bool bg, .slice aog ng capg]), .val [] (fun w g _ => NumD (Xg) (ng) w g.lo g.hi g.v), .val [] (fun w g _ => DivsIn (Int.tdiv XG Xg) (rz XG Xg) true (70368744175616 + 1) w g.lo g.hi g.v), .val [3] (fun _ g vs => vs = [g.v]), .val [4] (fun _ g vs => ∃ b1 b2, vs = [.tuple #[g.v, b1, b2]]), .val [4] (fun _ g vs => ∃ b0 b2, vs = [.tuple #[b0, g.v, b2]]), .val [4] (fun _ g vs => ∃ b0 b1, vs = [.tuple #[b0, b1, g.v]]), .box 26 2, .box 26 2, .sto 8 5 26 2, .sto 9 6 26 2, .val [7] (fun _ g vs => vs = [g.v])] (by kernel_rfl) (by kernel_rfl) rfl ⟨trivial, trivial, trivial, trivial, trivial, trivial, trivial, trivial, trivial, trivial, trivial, trivial, trivial, trivial⟩ ⟨fun _ _ _ _ _ h => h, fun _ _ _ _ _ h => h, fun _ _ _ _ hb h => h.keep hb, fun _ _ _ _ hb h => h.keep hb, fun _ _ _ _ _ h => h, fun _ _ _ _ _ h => h, fun _ _ _ _ _ h => h, fun _ _ _ _ _ h => h, trivial, trivial, trivial, trivial, fun _ _ _ _ _ h => h, trivial⟩ ⟨?_, ?_, ?_, ?_, ?_, ?_, ?_, ?_, ?_, ?_, ?_, ?_, ?_, trivial⟩ ?_
      · intro x w1 K hU hS hO hd hK
        obtain ⟨k0, k1, -⟩ := cells2 ((Up.tr (up_drew _) (hS.upb rfl)).blk Td)
        clear hd
        refine Veil.mk ?_; simp only [kgoal, putsFrom, depsOf, pu0, pu1, pu2, pu3, Nat.zero_add, Nat.reduceAdd, Nat.reduceBEq, Bool.or_false, Bool.false_or, Bool.or_true, Bool.true_or, Bool.false_eq_true, ↓reduceIte, Act.put, List.setIfInBounds_toArray, List.set_cons_zero, List.set_cons_succ]
        go_simp
        exact hK _ _ (Up.refl _) rfl
      · intro x w1 K hU hS hO hd hK
        obtain ⟨k0, k1, -⟩ := cells2 ((B.tr (Up.tr (up_drew _) (hS.upb rfl))).blk (unhide K3).2.2)
        clear hd
        refine Veil.mk ?_; simp only [kgoal, putsFrom, depsOf, pu0, pu1, pu2, pu3, Nat.zero_add, Nat.reduceAdd, Nat.reduceBEq, Bool.or_false, Bool.false_or, Bool.or_true, Bool.true_or, Bool.false_eq_true, ↓reduceIte, Act.put, List.setIfInBounds_toArray, List.set_cons_zero, List.set_cons_succ]
        go_simp
        exact hK _ _ (Up.refl _) rfl
      · intro x w1 K hU hS hO hd hK
        have h1 : (x 1).v = .agg #[.bool bg, .slice aog ng capg] := kval (hd 1 (by decide)).1 rfl
        clear hd
        refine Veil.mk ?_; simp only [kgoal, putsFrom, depsOf, pu0, pu1, pu2, pu3, Nat.zero_add, Nat.reduceAdd, Nat.reduceBEq, Bool.or_false, Bool.false_or, Bool.or_true, Bool.true_or, Bool.false_eq_true, ↓reduceIte, Act.put, List.setIfInBounds_toArray, List.set_cons_zero, List.set_cons_succ]
        simp only [h1]
        go_simp
        refine (c_rd (M := ng) (((unhide Rg).up hU)) (by omega)).mono ?_
        rintro e w2 ⟨v2, rfl, n2, u2⟩
        exact hK _ _ u2 n2
      · intro x w1 K hU hS hO hd hK
        have h0 : (x 0).v = .agg #[.bool bd, .slice aod nd capd] := kval (hd 0 (by decide)).1 rfl
        have h2 : NumD (Xg) (ng) w1 (x 2).lo (x 2).hi (x 2).v := kval (hd 2 (by decide)).1 rfl
        clear hd
        refine Veil.mk ?_; simp only [kgoal, putsFrom, depsOf, pu0, pu1, pu2, pu3, Nat.zero_add, Nat.reduceAdd, Nat.reduceBEq, Bool.or_false, Bool.false_or, Bool.or_true, Bool.true_or, Bool.false_eq_true, ↓reduceIte, Act.put, List.setIfInBounds_toArray, List.set_cons_zero, List.set_cons_succ]
        go_simp
        refine (trunc_rd (M := 70368744175616) (((unhide Cd).rd (M' := 70368744175616) (by omega)).up (Up.tr (up_drew _) (hS.upb rfl))) (h2.rd (by omega)) (by omega)).mono ?_
        rintro e w2 ⟨v2, rfl, n2, u2⟩
        rw [← unhide HOK] at n2
        exact hK _ _ u2 n2
      · intro x w1 K hU hS hO hd hK
        refine Veil.mk ?_; simp only [kgoal, putsFrom, depsOf, pu0, pu1, pu2, pu3, Nat.zero_add, Nat.reduceAdd, Nat.reduceBEq, Bool.or_false, Bool.false_or, Bool.or_true, Bool.true_or, Bool.false_eq_true, ↓reduceIte, Act.put, List.setIfInBounds_toArray, List.set_cons_zero, List.set_cons_succ]
        go_simp
        exact hK _ _ (Up.refl _) rfl
      · intro x w1 K hU hS hO hd hK
        have h3 : DivsIn (Int.tdiv XG Xg) (rz XG Xg) true (70368744175616 + 1) w1 (x 3).lo (x 3).hi (x 3).v := kval (hd 3 (by decide)).1 rfl
        obtain ⟨aq, ar, e0, nq, nr⟩ := h3
        have e1 : [(x 3).v] = [(x 4).v] := kval (hd 4 (by decide)).1 rfl
        have ej : (x 4).v = _ := (List.cons.inj e1).1.symm.trans e0
        obtain ⟨p1, p2, p3, p4, rfl⟩ := (nq.rd (Nat.le_refl _)).agg
        obtain ⟨p5, p6, p7, p8, rfl⟩ := (nr.rd (Nat.le_refl _)).agg
        clear nq nr
        clear hd
        refine Veil.mk ?_; simp only [kgoal, putsFrom, depsOf, pu0, pu1, pu2, pu3, Nat.zero_add, Nat.reduceAdd, Nat.reduceBEq, Bool.or_false, Bool.false_or, Bool.or_true, Bool.true_or, Bool.false_eq_true, ↓reduceIte, Act.put, List.setIfInBounds_toArray, List.set_cons_zero, List.set_cons_succ]
        go_simp
        exact hK _ _ (Up.refl _) ⟨_, _,  by show [(x 4).v] = _; rw [ej]; rfl⟩
      · intro x w1 K hU hS hO hd hK
        have h3 : DivsIn (Int.tdiv XG Xg) (rz XG Xg) true (70368744175616 + 1) w1 (x 3).lo (x 3).hi (x 3).v := kval (hd 3 (by decide)).1 rfl
        obtain ⟨aq, ar, e0, nq, nr⟩ := h3
        have e1 : [(x 3).v] = [(x 4).v] := kval (hd 4 (by decide)).1 rfl
        have ej : (x 4).v = _ := (List.cons.inj e1).1.symm.trans e0
        obtain ⟨p1, p2, p3, p4, rfl⟩ := (nq.rd (Nat.le_refl _)).agg
        obtain ⟨p5, p6, p7, p8, rfl⟩ := (nr.rd (Nat.le_refl _)).agg
        clear nq nr
        clear hd
        refine Veil.mk ?_; simp only [kgoal, putsFrom, depsOf, pu0, pu1, pu2, pu3, Nat.zero_add, Nat.reduceAdd, Nat.reduceBEq, Bool.or_false, Bool.false_or, Bool.or_true, Bool.true_or, Bool.false_eq_true, ↓reduceIte, Act.put, List.setIfInBounds_toArray, List.set_cons_zero, List.set_cons_succ]
        go_simp
        exact hK _ _ (Up.refl _) ⟨_, _,  by show [(x 4).v] = _; rw [ej]; rfl⟩
      · intro x w1 K hU hS hO hd hK
        have h3 : DivsIn (Int.tdiv XG Xg) (rz XG Xg) true (70368744175616 + 1) w1 (x 3).lo (x 3).hi (x 3).v := kval (hd 3 (by decide)).1 rfl
        obtain ⟨aq, ar, e0, nq, nr⟩ := h3
        have e1 : [(x 3).v] = [(x 4).v] := kval (hd 4 (by decide)).1 rfl
        have ej : (x 4).v = _ := (List.cons.inj e1).1.symm.trans e0
        obtain ⟨p1, p2, p3, p4, rfl⟩ := (nq.rd (Nat.le_refl _)).agg
        obtain ⟨p5, p6, p7, p8, rfl⟩ := (nr.rd (Nat.le_refl _)).agg
        clear nq nr
        clear hd
        refine Veil.mk ?_; simp only [kgoal, putsFrom, depsOf, pu0, pu1, pu2, pu3, Nat.zero_add, Nat.reduceAdd, Nat.reduceBEq, Bool.or_false, Bool.false_or, Bool.or_true, Bool.true_or, Bool.false_eq_true, ↓reduceIte, Act.put, List.setIfInBounds_toArray, List.set_cons_zero, List.set_cons_succ]
        go_simp
        exact hK _ _ (Up.refl _) ⟨_, _,  by show [(x 4).v] = _; rw [ej]; rfl⟩
      · intro x w1 K hU hS hO hd hK
        refine Veil.mk ?_; simp only [kgoal, putsFrom, depsOf, pu0, pu1, pu2, pu3, Nat.zero_add, Nat.reduceAdd, Nat.reduceBEq, Bool.or_false, Bool.false_or, Bool.or_true, Bool.true_or, Bool.false_eq_true, ↓reduceIte, Act.put, List.setIfInBounds_toArray, List.set_cons_zero, List.set_cons_succ]
        go_simp
        exact hK _ _ (up_alloc _ _) (box_new rfl hS)
      · intro x w1 K hU hS hO hd hK
        refine Veil.mk ?_; simp only [kgoal, putsFrom, depsOf, pu0, pu1, pu2, pu3, Nat.zero_add, Nat.reduceAdd, Nat.reduceBEq, Bool.or_false, Bool.false_or, Bool.or_true, Bool.true_or, Bool.false_eq_true, ↓reduceIte, Act.put, List.setIfInBounds_toArray, List.set_cons_zero, List.set_cons_succ]
        go_simp
        exact hK _ _ (up_alloc _ _) (box_new rfl hS)
      · intro x w1 K hU hS hO hd hK
        obtain ⟨c0, c1, eb, hb⟩ := kbox2 (hd 8 (by decide)).1 rfl
        have h3 : DivsIn (Int.tdiv XG Xg) (rz XG Xg) true (70368744175616 + 1) w1 (x 3).lo (x 3).hi (x 3).v := kval (hd 3 (by decide)).1 rfl
        obtain ⟨aq, ar, e0, nq, nr⟩ := h3
        have e1 : [(x 3).v] = [(x 4).v] := kval (hd 4 (by decide)).1 rfl
        have ej : (x 4).v = _ := (List.cons.inj e1).1.symm.trans e0
        have es : ∃ b1 b2, [(x 4).v] = [Value.tuple #[(x 5).v, b1, b2]] := kval (hd 5 (by decide)).1 rfl
        obtain ⟨b1, b2, es⟩ := es
        rw [ej] at es
        obtain ⟨p1, p2, p3, p4, ea⟩ := (nq.rd (Nat.le_refl _)).agg
        replace es := (tup3 (List.cons.inj es).1).1.symm
        rw [ea] at es
        clear nq nr e0 e1 ej ea
        obtain ⟨d0, d1, f0, f1, -⟩ := cells2 hb
        clear hd
        refine Veil.mk ?_; simp only [kgoal, putsFrom, depsOf, pu0, pu1, pu2, pu3, Nat.zero_add, Nat.reduceAdd, Nat.reduceBEq, Bool.or_false, Bool.false_or, Bool.or_true, Bool.true_or, Bool.false_eq_true, ↓reduceIte, Act.put, List.setIfInBounds_toArray, List.set_cons_zero, List.set_cons_succ]
        go_simp
        exact hK _ _ (sto_two hb _ _).1 ⟨_, rfl, es, (sto_two hb _ _).2⟩
      · intro x w1 K hU hS hO hd hK
        obtain ⟨c0, c1, eb, hb⟩ := kbox2 (hd 9 (by decide)).1 rfl
        have h3 : DivsIn (Int.tdiv XG Xg) (rz XG Xg) true (70368744175616 + 1) w1 (x 3).lo (x 3).hi (x 3).v := kval (hd 3 (by decide)).1 rfl
        obtain ⟨aq, ar, e0, nq, nr⟩ := h3
        have e1 : [(x 3).v] = [(x 4).v] := kval (hd 4 (by decide)).1 rfl
        have ej : (x 4).v = _ := (List.cons.inj e1).1.symm.trans e0
        have es : ∃ b0 b2, [(x 4).v] = [Value.tuple #[b0, (x 6).v, b2]] := kval (hd 6 (by decide)).1 rfl
        obtain ⟨b0, b2, es⟩ := es
        rw [ej] at es
        obtain ⟨p1, p2, p3, p4, ea⟩ := (nr.rd (Nat.le_refl _)).agg
        replace es := (tup3 (List.cons.inj es).1).2.1.symm
        rw [ea] at es
        clear nq nr e0 e1 ej ea
        obtain ⟨d0, d1, f0, f1, -⟩ := cells2 hb
        clear hd
        refine Veil.mk ?_; simp only [kgoal, putsFrom, depsOf, pu0, pu1, pu2, pu3, Nat.zero_add, Nat.reduceAdd, Nat.reduceBEq, Bool.or_false, Bool.false_or, Bool.or_true, Bool.true_or, Bool.false_eq_true, ↓reduceIte, Act.put, List.setIfInBounds_toArray, List.set_cons_zero, List.set_cons_succ]
        go_simp
        exact hK _ _ (sto_two hb _ _).1 ⟨_, rfl, es, (sto_two hb _ _).2⟩
      · intro x w1 K hU hS hO hd hK
        refine Veil.mk ?_; simp only [kgoal, putsFrom, depsOf, pu0, pu1, pu2, pu3, Nat.zero_add, Nat.reduceAdd, Nat.reduceBEq, Bool.or_false, Bool.false_or, Bool.or_true, Bool.true_or, Bool.false_eq_true, ↓reduceIte, Act.put, List.setIfInBounds_toArray, List.set_cons_zero, List.set_cons_succ]
        go_simp
        exact hK _ _ (Up.refl _) rfl
      intro x w1 hU hS hR hlo hdis
      have hG := hS.upb rfl
      obtain ⟨eb1, lb1⟩ := kbox (hR 8 (by decide)) rfl
      obtain ⟨eb2, lb2⟩ := kbox (hR 9 (by decide)) rfl
      have hv : DivsIn (Int.tdiv XG Xg) (rz XG Xg) true (70368744175616 + 1) w1 (x 3).lo (x 3).hi (x 3).v := kval (hR 3 (by decide)) rfl
      obtain ⟨aq, ar, e0, nq', nr'⟩ := hv
      have e1 : [(x 3).v] = [(x 4).v] := kval (hR 4 (by decide)) rfl
      have ej : (x 4).v = _ := (List.cons.inj e1).1.symm.trans e0
      have f0 : ∃ b c, [(x 4).v] = [Value.tuple #[(x 5).v, b, c]] := kval (hR 5 (by decide)) rfl
      obtain ⟨_, _, f0⟩ := f0
      have f1 : ∃ b c, [(x 4).v] = [Value.tuple #[b, (x 6).v, c]] := kval (hR 6 (by decide)) rfl
      obtain ⟨_, _, f1⟩ := f1
      have f2 : ∃ b c, [(x 4).v] = [Value.tuple #[b, c, (x 7).v]] := kval (hR 7 (by decide)) rfl
      obtain ⟨_, _, f2⟩ := f2
      have fa : [(x 7).v] = [(x 12).v] := kval (hR 12 (by decide)) rfl
      obtain ⟨cs1, -, q1, Tu⟩ := ksto (hR 10 (by decide)) rfl
      obtain ⟨cs2, -, q2, Tt⟩ := ksto (hR 11 (by decide)) rfl
      rw [ej] at f0 f1 f2
      replace f0 := (tup3 (List.cons.inj f0).1).1.symm
      replace f1 := (tup3 (List.cons.inj f1).1).2.1.symm
      replace f2 := (tup3 (List.cons.inj f2).1).2.2.symm
      have fa' : (x 12).v = .bool true := by rw [← f2]; exact (List.cons.inj fa).1.symm
      obtain ⟨bu, aou, nu, capu, eau⟩ := (nq'.rd (Nat.le_refl _)).agg
      subst eau
      rw [f0] at q1
      cases q1
      have Cu := hide nq'.rc
      obtain ⟨bt, aot, nt, capt, eat⟩ := (nr'.rd (Nat.le_refl _)).agg
      subst eat
      rw [f1] at q2
      cases q2
      have Ct := hide nr'.rc
      refine Veil.mk ?_; simp only [kgoal, putsFrom, depsOf, pu0, pu1, pu2, pu3, Nat.zero_add, Nat.reduceAdd, Nat.reduceBEq, Bool.or_false, Bool.false_or, Bool.or_true, Bool.true_or, Bool.false_eq_true, ↓reduceIte, Act.put, List.setIfInBounds_toArray, List.set_cons_zero, List.set_cons_succ]
      rw [eb1, eb2, fa']
      generalize (x 0).v = y0u at *
      generalize (x 1).v = y1u at *
      generalize (x 2).v = y2u at *
      generalize (x 3).v = y3u at *
      generalize (x 4).v = y4u at *
      generalize (x 5).v = y5u at *
      generalize (x 6).v = y6u at *
      generalize (x 7).v = y7u at *
      generalize (x 8).lo = gu at *
      generalize (x 9).lo = gt at *
      replace V := hU
      have D := Up.tr (up_drew _) hG
      clear hR hlo hdis hS hG hU nq' nr' e0 e1 ej f0 f1 f2 fa fa' eb1 eb2
      replace Tz := D.blk Tz
      replace Cz := hide ((unhide Cz).up D)
      replace B := B.tr D
      clear D
      obtain ⟨lt0, lt1, -⟩ := cells2 Tt
      obtain ⟨lz0, lz1, -⟩ := cells2 Tz
      go_wp2_with fail
      refine (cmp_rd (M := 70368744175616 + 1) ((unhide Ct).rd (by omega)) ((unhide Cz).rd (by omega))).mono ?_
      rintro e v31 ⟨c31, rfl, hc31, D⟩
      rw [show cmpZ (rz XG Xg) 0 = 0 from by rw [(unhide HD).2.2.1]; rfl] at hc31
      subst hc31
      replace V := V.tr D
      replace B := B.tr D
      clear D
      clear lt0 lt1 lz0 lz1
      go_wp2_with fail
      refine (awake_any _ ((unhide HT).up V)).mono ?_
      rintro e w9 ⟨rfl, u9⟩
      go_wp2_with fail
      go_ret
      exact ⟨rfl, V.tr u9⟩

end Go.Proofs.YtkmpobmpencefaaDoor
