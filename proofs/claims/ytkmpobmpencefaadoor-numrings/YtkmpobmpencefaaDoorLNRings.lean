/-
  What is proved here: tandemlaw02.NumRings answers true for all numbers.
-/
import Derived.Test.YtkmpobmpencefaaDoorNCon
namespace Go.Proofs.YtkmpobmpencefaaDoor
open Go Go.RowKit

set_option linter.unusedSimpArgs false in
set_option maxRecDepth 60000 in
set_option maxHeartbeats 4000000 in
theorem rings_walk (aa : Value) (ba : Bool) (na : Nat) (fa : Nat → Nat) (ab : Value) (bb : Bool) (nb : Nat) (fb : Nat → Nat) (ad : Value) (bd : Bool) (nd : Nat) (fd : Nat → Nat) (w : World) (haa : Nm w aa ba na fa) (hab : Nm w ab bb nb fb) (had : Nm w ad bd nd fd) (hfa : ∀ i, i < na → fa i < 4294967296) (hfb : ∀ i, i < nb → fb i < 4294967296) (hfd : ∀ i, i < nd → fd i < 4294967296) (hna : na ≤ 35184372087808) (hnb : nb ≤ 35184372087808) (hnd : nd ≤ 35184372087808) (htab : Tab w) :
    Calls Tryd.prog 13 #[aa, ab, ad] w fun e w' => e = .returned (.bool true) ∧ Up w w' := by
  obtain ⟨va, rfl, hva⟩ := haa
  obtain ⟨aoa, capa, rfl, -⟩ := id hva
  obtain ⟨Xa, hXa⟩ : ∃ X, sgn ba (num 4294967296 fa na) = X := ⟨_, rfl⟩
  have Ra := hide (show RdD Xa na w (.agg #[.bool ba, .slice aoa na capa]) from ⟨ba, na, fa, ⟨_, rfl, hva⟩, hfa, Nat.le_refl _, hXa⟩)
  obtain ⟨vb, rfl, hvb⟩ := hab
  obtain ⟨aob, capb, rfl, -⟩ := id hvb
  obtain ⟨Xb, hXb⟩ : ∃ X, sgn bb (num 4294967296 fb nb) = X := ⟨_, rfl⟩
  have Rb := hide (show RdD Xb nb w (.agg #[.bool bb, .slice aob nb capb]) from ⟨bb, nb, fb, ⟨_, rfl, hvb⟩, hfb, Nat.le_refl _, hXb⟩)
  obtain ⟨vd, rfl, hvd⟩ := had
  obtain ⟨aod, capd, rfl, -⟩ := id hvd
  obtain ⟨Xd, hXd⟩ : ∃ X, sgn bd (num 4294967296 fd nd) = X := ⟨_, rfl⟩
  have Rd := hide (show RdD Xd nd w (.agg #[.bool bd, .slice aod nd capd]) from ⟨bd, nd, fd, ⟨_, rfl, hvd⟩, hfd, Nat.le_refl _, hXd⟩)
  have HT := hide htab
  clear htab hva hfa hXa hvb hfb hXb hvd hfd hXd
  have K3 := hide (three_blocks w (.cells #[.bool ba, .slice aoa na capa] 26) (.cells #[.bool bb, .slice aob nb capb] 26) (.cells #[.bool bd, .slice aod nd capd] 26))
  have U0 := ((up_alloc w (.cells #[.bool ba, .slice aoa na capa] 26)).tr (up_alloc _ (.cells #[.bool bb, .slice aob nb capb] 26))).tr (up_alloc _ (.cells #[.bool bd, .slice aod nd capd] 26))
  go_enter Tryd.func13, Tryd.ntmps13
  go_wp2_with fail
  refine wp_region_knd (by kernel_rfl) w U0 [[], [0], [], [2], [], [4], [3, 5], [6, 3, 5], [1, 7], [8, 1, 7], [], [10, 9]] [.val [] (fun _ g _ => g.v = .agg #[.bool ba, .slice aoa na capa]), .val [] (fun w g _ => NumD (Xa) (na) w g.lo g.hi g.v), .val [] (fun _ g _ => g.v = .agg #[.bool bb, .slice aob nb capb]), .val [] (fun w g _ => NumD (Xb) (nb) w g.lo g.hi g.v), .val [] (fun _ g _ => g.v = .agg #[.bool bd, .slice aod nd capd]), .val [] (fun w g _ => NumD (Xd) (nd) w g.lo g.hi g.v), .val [3, 5] (fun w g vs => Pair2 w g vs), .val [] (fun w g _ => NumIn (Xb + Xd) (35184372087808 + 1) w g.lo g.hi g.v), .val [1, 7] (fun w g vs => Pair2 w g vs), .val [] (fun w g _ => NumIn (Xa * (Xb + Xd)) ((na) + (35184372087808 + 1)) w g.lo g.hi g.v), .box 26 2, .sto 10 9 26 2] (by kernel_rfl) (by kernel_rfl) rfl ⟨trivial, trivial, trivial, trivial, trivial, trivial, trivial, trivial, trivial, trivial, trivial, trivial, trivial⟩ ⟨fun _ _ _ _ _ h => h, fun _ _ _ _ hb h => h.keep hb, fun _ _ _ _ _ h => h, fun _ _ _ _ hb h => h.keep hb, fun _ _ _ _ _ h => h, fun _ _ _ _ hb h => h.keep hb, fun _ _ _ _ hb h => h.keep hb, fun _ _ _ _ hb h => h.keep hb, fun _ _ _ _ hb h => h.keep hb, fun _ _ _ _ hb h => h.keep hb, trivial, trivial, trivial⟩ ⟨?_, ?_, ?_, ?_, ?_, ?_, ?_, ?_, ?_, ?_, ?_, ?_, trivial⟩ ?_
  · intro x w1 K hU hS hO hd hK
    obtain ⟨k0, k1, -⟩ := cells2 ((Up.tr (up_drew _) (hS.upb rfl)).blk (unhide K3).1)
    clear hd
    refine Veil.mk ?_; simp only [kgoal, putsFrom, depsOf, List.getD_cons_zero, List.getD_cons_succ, List.contains_nil, List.contains_cons, Nat.zero_add, Nat.reduceAdd, Nat.reduceBEq, Bool.or_false, Bool.false_or, Bool.or_true, Bool.true_or, Bool.false_eq_true, ↓reduceIte, Act.put, List.setIfInBounds_toArray, List.set_cons_zero, List.set_cons_succ]
    go_simp
    exact hK _ _ (Up.refl _) rfl
  · intro x w1 K hU hS hO hd hK
    have h0 : (x 0).v = .agg #[.bool ba, .slice aoa na capa] := kval (hd 0 (by decide)).1 rfl
    clear hd
    refine Veil.mk ?_; simp only [kgoal, putsFrom, depsOf, List.getD_cons_zero, List.getD_cons_succ, List.contains_nil, List.contains_cons, Nat.zero_add, Nat.reduceAdd, Nat.reduceBEq, Bool.or_false, Bool.false_or, Bool.or_true, Bool.true_or, Bool.false_eq_true, ↓reduceIte, Act.put, List.setIfInBounds_toArray, List.set_cons_zero, List.set_cons_succ]
    simp only [h0]
    go_simp
    refine (c_rd (M := na) (((unhide Ra).up hU)) (by omega)).mono ?_
    rintro e w2 ⟨v2, rfl, n2, u2⟩
    exact hK _ _ u2 n2
  · intro x w1 K hU hS hO hd hK
    obtain ⟨k0, k1, -⟩ := cells2 ((Up.tr (up_drew _) (hS.upb rfl)).blk (unhide K3).2.1)
    clear hd
    refine Veil.mk ?_; simp only [kgoal, putsFrom, depsOf, List.getD_cons_zero, List.getD_cons_succ, List.contains_nil, List.contains_cons, Nat.zero_add, Nat.reduceAdd, Nat.reduceBEq, Bool.or_false, Bool.false_or, Bool.or_true, Bool.true_or, Bool.false_eq_true, ↓reduceIte, Act.put, List.setIfInBounds_toArray, List.set_cons_zero, List.set_cons_succ]
    go_simp
    exact hK _ _ (Up.refl _) rfl
  · intro x w1 K hU hS hO hd hK
    have h2 : (x 2).v = .agg #[.bool bb, .slice aob nb capb] := kval (hd 2 (by decide)).1 rfl
    clear hd
    refine Veil.mk ?_; simp only [kgoal, putsFrom, depsOf, List.getD_cons_zero, List.getD_cons_succ, List.contains_nil, List.contains_cons, Nat.zero_add, Nat.reduceAdd, Nat.reduceBEq, Bool.or_false, Bool.false_or, Bool.or_true, Bool.true_or, Bool.false_eq_true, ↓reduceIte, Act.put, List.setIfInBounds_toArray, List.set_cons_zero, List.set_cons_succ]
    simp only [h2]
    go_simp
    refine (c_rd (M := nb) (((unhide Rb).up hU)) (by omega)).mono ?_
    rintro e w2 ⟨v2, rfl, n2, u2⟩
    exact hK _ _ u2 n2
  · intro x w1 K hU hS hO hd hK
    obtain ⟨k0, k1, -⟩ := cells2 ((Up.tr (up_drew _) (hS.upb rfl)).blk (unhide K3).2.2)
    clear hd
    refine Veil.mk ?_; simp only [kgoal, putsFrom, depsOf, List.getD_cons_zero, List.getD_cons_succ, List.contains_nil, List.contains_cons, Nat.zero_add, Nat.reduceAdd, Nat.reduceBEq, Bool.or_false, Bool.false_or, Bool.or_true, Bool.true_or, Bool.false_eq_true, ↓reduceIte, Act.put, List.setIfInBounds_toArray, List.set_cons_zero, List.set_cons_succ]
    go_simp
    exact hK _ _ (Up.refl _) rfl
  · intro x w1 K hU hS hO hd hK
    have h4 : (x 4).v = .agg #[.bool bd, .slice aod nd capd] := kval (hd 4 (by decide)).1 rfl
    clear hd
    refine Veil.mk ?_; simp only [kgoal, putsFrom, depsOf, List.getD_cons_zero, List.getD_cons_succ, List.contains_nil, List.contains_cons, Nat.zero_add, Nat.reduceAdd, Nat.reduceBEq, Bool.or_false, Bool.false_or, Bool.or_true, Bool.true_or, Bool.false_eq_true, ↓reduceIte, Act.put, List.setIfInBounds_toArray, List.set_cons_zero, List.set_cons_succ]
    simp only [h4]
    go_simp
    refine (c_rd (M := nd) (((unhide Rd).up hU)) (by omega)).mono ?_
    rintro e w2 ⟨v2, rfl, n2, u2⟩
    exact hK _ _ u2 n2
  · intro x w1 K hU hS hO hd hK
    have h3 : NumD (Xb) (nb) w1 (x 3).lo (x 3).hi (x 3).v := kval (hd 3 (by decide)).1 rfl
    have h5 : NumD (Xd) (nd) w1 (x 5).lo (x 5).hi (x 5).v := kval (hd 5 (by decide)).1 rfl
    obtain ⟨pa, qa, ra, ta, ea⟩ := (h3.rd (Nat.le_refl _)).agg
    obtain ⟨pb, qb, rb, tb, eb⟩ := (h5.rd (Nat.le_refl _)).agg
    clear hd
    refine Veil.mk ?_; simp only [kgoal, putsFrom, depsOf, List.getD_cons_zero, List.getD_cons_succ, List.contains_nil, List.contains_cons, Nat.zero_add, Nat.reduceAdd, Nat.reduceBEq, Bool.or_false, Bool.false_or, Bool.or_true, Bool.true_or, Bool.false_eq_true, ↓reduceIte, Act.put, List.setIfInBounds_toArray, List.set_cons_zero, List.set_cons_succ]
    simp only [ea, eb]
    go_simp
    exact hK _ _ (up_alloc _ _) ⟨rfl, by show w1.heap.size < (w1.alloc _).heap.size; simp, _, _, _, _, by show [(x 3).v, (x 5).v] = _; rw [ea, eb], heap_alloc_new w1 _⟩
  · intro x w1 K hU hS hO hd hK
    have h6 : Pair2 w1 (x 6) [(x 3).v, (x 5).v] := kval (hd 6 (by decide)).1 rfl
    have h3 : NumD (Xb) (nb) w1 (x 3).lo (x 3).hi (x 3).v := kval (hd 3 (by decide)).1 rfl
    have h5 : NumD (Xd) (nd) w1 (x 5).lo (x 5).hi (x 5).v := kval (hd 5 (by decide)).1 rfl
    obtain ⟨ep, -, b1, v1, b2, v2, ql, hb⟩ := h6
    have ea := (List.cons.inj ql).1
    have eb := (List.cons.inj (List.cons.inj ql).2).1
    rw [ea] at h3
    rw [eb] at h5
    clear hd
    refine Veil.mk ?_; simp only [kgoal, putsFrom, depsOf, List.getD_cons_zero, List.getD_cons_succ, List.contains_nil, List.contains_cons, Nat.zero_add, Nat.reduceAdd, Nat.reduceBEq, Bool.or_false, Bool.false_or, Bool.or_true, Bool.true_or, Bool.false_eq_true, ↓reduceIte, Act.put, List.setIfInBounds_toArray, List.set_cons_zero, List.set_cons_succ]
    simp only [ep]
    go_simp
    refine (add2_rd (M := 35184372087808) hb (h3.rd (by omega)) (h5.rd (by omega)) (by omega)).mono ?_
    rintro e w2 ⟨v2, rfl, n2, u2⟩
    exact hK _ _ u2 n2
  · intro x w1 K hU hS hO hd hK
    have h1 : NumD (Xa) (na) w1 (x 1).lo (x 1).hi (x 1).v := kval (hd 1 (by decide)).1 rfl
    have h7 : NumIn (Xb + Xd) (35184372087808 + 1) w1 (x 7).lo (x 7).hi (x 7).v := kval (hd 7 (by decide)).1 rfl
    obtain ⟨pa, qa, ra, ta, ea⟩ := (h1.rd (Nat.le_refl _)).agg
    obtain ⟨pb, qb, rb, tb, eb⟩ := (h7.rd (Nat.le_refl _)).agg
    clear hd
    refine Veil.mk ?_; simp only [kgoal, putsFrom, depsOf, List.getD_cons_zero, List.getD_cons_succ, List.contains_nil, List.contains_cons, Nat.zero_add, Nat.reduceAdd, Nat.reduceBEq, Bool.or_false, Bool.false_or, Bool.or_true, Bool.true_or, Bool.false_eq_true, ↓reduceIte, Act.put, List.setIfInBounds_toArray, List.set_cons_zero, List.set_cons_succ]
    simp only [ea, eb]
    go_simp
    exact hK _ _ (up_alloc _ _) ⟨rfl, by show w1.heap.size < (w1.alloc _).heap.size; simp, _, _, _, _, by show [(x 1).v, (x 7).v] = _; rw [ea, eb], heap_alloc_new w1 _⟩
  · intro x w1 K hU hS hO hd hK
    have h8 : Pair2 w1 (x 8) [(x 1).v, (x 7).v] := kval (hd 8 (by decide)).1 rfl
    have h1 : NumD (Xa) (na) w1 (x 1).lo (x 1).hi (x 1).v := kval (hd 1 (by decide)).1 rfl
    have h7 : NumIn (Xb + Xd) (35184372087808 + 1) w1 (x 7).lo (x 7).hi (x 7).v := kval (hd 7 (by decide)).1 rfl
    obtain ⟨ep, -, b1, v1, b2, v2, ql, hb⟩ := h8
    have ea := (List.cons.inj ql).1
    have eb := (List.cons.inj (List.cons.inj ql).2).1
    rw [ea] at h1
    rw [eb] at h7
    clear hd
    refine Veil.mk ?_; simp only [kgoal, putsFrom, depsOf, List.getD_cons_zero, List.getD_cons_succ, List.contains_nil, List.contains_cons, Nat.zero_add, Nat.reduceAdd, Nat.reduceBEq, Bool.or_false, Bool.false_or, Bool.or_true, Bool.true_or, Bool.false_eq_true, ↓reduceIte, Act.put, List.setIfInBounds_toArray, List.set_cons_zero, List.set_cons_succ]
    simp only [ep]
    go_simp
    refine (mul2_rd (M1 := na) (M2 := 35184372087808 + 1) hb (h1.rd (by omega)) (h7.rd (by omega)) (by omega)).mono ?_
    rintro e w2 ⟨v2, rfl, n2, u2⟩
    exact hK _ _ u2 n2
  · intro x w1 K hU hS hO hd hK
    refine Veil.mk ?_; simp only [kgoal, putsFrom, depsOf, List.getD_cons_zero, List.getD_cons_succ, List.contains_nil, List.contains_cons, Nat.zero_add, Nat.reduceAdd, Nat.reduceBEq, Bool.or_false, Bool.false_or, Bool.or_true, Bool.true_or, Bool.false_eq_true, ↓reduceIte, Act.put, List.setIfInBounds_toArray, List.set_cons_zero, List.set_cons_succ]
    go_simp
    exact hK _ _ (up_alloc _ _) (box_new rfl hS)
  · intro x w1 K hU hS hO hd hK
    obtain ⟨c0, c1, eb, hb⟩ := kbox2 (hd 10 (by decide)).1 rfl
    have h9 : NumIn (Xa * (Xb + Xd)) ((na) + (35184372087808 + 1)) w1 (x 9).lo (x 9).hi (x 9).v := kval (hd 9 (by decide)).1 rfl
    obtain ⟨pa, qa, ra, ta, es⟩ := (h9.rd (Nat.le_refl _)).agg
    clear h9
    obtain ⟨d0, d1, f0, f1, -⟩ := cells2 hb
    clear hd
    refine Veil.mk ?_; simp only [kgoal, putsFrom, depsOf, List.getD_cons_zero, List.getD_cons_succ, List.contains_nil, List.contains_cons, Nat.zero_add, Nat.reduceAdd, Nat.reduceBEq, Bool.or_false, Bool.false_or, Bool.or_true, Bool.true_or, Bool.false_eq_true, ↓reduceIte, Act.put, List.setIfInBounds_toArray, List.set_cons_zero, List.set_cons_succ]
    go_simp
    exact hK _ _ (sto_two hb _ _).1 ⟨_, rfl, es, (sto_two hb _ _).2⟩
  · intro x w1 hU hS hR hlo hdis
    have hx : NumIn (Xa * (Xb + Xd)) ((na) + (35184372087808 + 1)) w1 (x 9).lo (x 9).hi (x 9).v := kval (hR 9 (by decide)) rfl
    obtain ⟨bp, aop, np, capp, ex⟩ := (hx.rd (Nat.le_refl _)).agg
    rw [ex] at hx
    obtain ⟨cs, -, q0, Tp⟩ := ksto (hR 11 (by decide)) rfl
    rw [ex] at q0
    cases q0
    obtain ⟨eb, -⟩ := kbox (hR 10 (by decide)) rfl
    have hG := hS.upb rfl
    have Cp := hide hx.rc
    have zp := (hlo 10 (by decide)).1
    refine Veil.mk ?_; simp only [kgoal, putsFrom, depsOf, List.getD_cons_zero, List.getD_cons_succ, List.contains_nil, List.contains_cons, Nat.zero_add, Nat.reduceAdd, Nat.reduceBEq, Bool.or_false, Bool.false_or, Bool.or_true, Bool.true_or, Bool.false_eq_true, ↓reduceIte, Act.put, List.setIfInBounds_toArray, List.set_cons_zero, List.set_cons_succ]
    rw [eb]
    generalize (x 0).v = y0p at *
    generalize (x 1).v = y1p at *
    generalize (x 2).v = y2p at *
    generalize (x 3).v = y3p at *
    generalize (x 4).v = y4p at *
    generalize (x 5).v = y5p at *
    generalize (x 6).v = y6p at *
    generalize (x 7).v = y7p at *
    generalize (x 8).v = y8p at *
    generalize (x 9).v = y9p at *
    generalize (x 10).lo = gp at *
    have B1 := Up.tr (up_drew _) hG
    have U1 := hU
    clear hR hlo hdis hS hx ex hG eb hU
    go_wp2_with fail
    refine wp_region_knd (by kernel_rfl) w U1 [[], [0], [], [2], [1, 3], [4, 1, 3], [], [6], [], [8], [7, 9], [10, 7, 9], [5, 11], [12, 5, 11], [], [14, 13]] [.val [] (fun _ g _ => g.v = .agg #[.bool ba, .slice aoa na capa]), .val [] (fun w g _ => NumD (Xa) (na) w g.lo g.hi g.v), .val [] (fun _ g _ => g.v = .agg #[.bool bb, .slice aob nb capb]), .val [] (fun w g _ => NumD (Xb) (nb) w g.lo g.hi g.v), .val [1, 3] (fun w g vs => Pair2 w g vs), .val [] (fun w g _ => NumIn (Xa * Xb) ((na) + (nb)) w g.lo g.hi g.v), .val [] (fun _ g _ => g.v = .agg #[.bool ba, .slice aoa na capa]), .val [] (fun w g _ => NumD (Xa) (na) w g.lo g.hi g.v), .val [] (fun _ g _ => g.v = .agg #[.bool bd, .slice aod nd capd]), .val [] (fun w g _ => NumD (Xd) (nd) w g.lo g.hi g.v), .val [7, 9] (fun w g vs => Pair2 w g vs), .val [] (fun w g _ => NumIn (Xa * Xd) ((na) + (nd)) w g.lo g.hi g.v), .val [5, 11] (fun w g vs => Pair2 w g vs), .val [] (fun w g _ => NumIn ((Xa * Xb) + (Xa * Xd)) (70368744175616 + 1) w g.lo g.hi g.v), .box 26 2, .sto 14 13 26 2] (by kernel_rfl) (by kernel_rfl) rfl ⟨trivial, trivial, trivial, trivial, trivial, trivial, trivial, trivial, trivial, trivial, trivial, trivial, trivial, trivial, trivial, trivial, trivial⟩ ⟨fun _ _ _ _ _ h => h, fun _ _ _ _ hb h => h.keep hb, fun _ _ _ _ _ h => h, fun _ _ _ _ hb h => h.keep hb, fun _ _ _ _ hb h => h.keep hb, fun _ _ _ _ hb h => h.keep hb, fun _ _ _ _ _ h => h, fun _ _ _ _ hb h => h.keep hb, fun _ _ _ _ _ h => h, fun _ _ _ _ hb h => h.keep hb, fun _ _ _ _ hb h => h.keep hb, fun _ _ _ _ hb h => h.keep hb, fun _ _ _ _ hb h => h.keep hb, fun _ _ _ _ hb h => h.keep hb, trivial, trivial, trivial⟩ ⟨?_, ?_, ?_, ?_, ?_, ?_, ?_, ?_, ?_, ?_, ?_, ?_, ?_, ?_, ?_, ?_, trivial⟩ ?_
    · intro x w1 K hU hS hO hd hK
      obtain ⟨k0, k1, -⟩ := cells2 ((B1.tr (Up.tr (up_drew _) (hS.upb rfl))).blk (unhide K3).1)
      clear hd
      refine Veil.mk ?_; simp only [kgoal, putsFrom, depsOf, List.getD_cons_zero, List.getD_cons_succ, List.contains_nil, List.contains_cons, Nat.zero_add, Nat.reduceAdd, Nat.reduceBEq, Bool.or_false, Bool.false_or, Bool.or_true, Bool.true_or, Bool.false_eq_true, ↓reduceIte, Act.put, List.setIfInBounds_toArray, List.set_cons_zero, List.set_cons_succ]
      go_simp
      exact hK _ _ (Up.refl _) rfl
    · intro x w1 K hU hS hO hd hK
      have h0 : (x 0).v = .agg #[.bool ba, .slice aoa na capa] := kval (hd 0 (by decide)).1 rfl
      clear hd
      refine Veil.mk ?_; simp only [kgoal, putsFrom, depsOf, List.getD_cons_zero, List.getD_cons_succ, List.contains_nil, List.contains_cons, Nat.zero_add, Nat.reduceAdd, Nat.reduceBEq, Bool.or_false, Bool.false_or, Bool.or_true, Bool.true_or, Bool.false_eq_true, ↓reduceIte, Act.put, List.setIfInBounds_toArray, List.set_cons_zero, List.set_cons_succ]
      simp only [h0]
      go_simp
      refine (c_rd (M := na) (((unhide Ra).up hU)) (by omega)).mono ?_
      rintro e w2 ⟨v2, rfl, n2, u2⟩
      exact hK _ _ u2 n2
    · intro x w1 K hU hS hO hd hK
      obtain ⟨k0, k1, -⟩ := cells2 ((B1.tr (Up.tr (up_drew _) (hS.upb rfl))).blk (unhide K3).2.1)
      clear hd
      refine Veil.mk ?_; simp only [kgoal, putsFrom, depsOf, List.getD_cons_zero, List.getD_cons_succ, List.contains_nil, List.contains_cons, Nat.zero_add, Nat.reduceAdd, Nat.reduceBEq, Bool.or_false, Bool.false_or, Bool.or_true, Bool.true_or, Bool.false_eq_true, ↓reduceIte, Act.put, List.setIfInBounds_toArray, List.set_cons_zero, List.set_cons_succ]
      go_simp
      exact hK _ _ (Up.refl _) rfl
    · intro x w1 K hU hS hO hd hK
      have h2 : (x 2).v = .agg #[.bool bb, .slice aob nb capb] := kval (hd 2 (by decide)).1 rfl
      clear hd
      refine Veil.mk ?_; simp only [kgoal, putsFrom, depsOf, List.getD_cons_zero, List.getD_cons_succ, List.contains_nil, List.contains_cons, Nat.zero_add, Nat.reduceAdd, Nat.reduceBEq, Bool.or_false, Bool.false_or, Bool.or_true, Bool.true_or, Bool.false_eq_true, ↓reduceIte, Act.put, List.setIfInBounds_toArray, List.set_cons_zero, List.set_cons_succ]
      simp only [h2]
      go_simp
      refine (c_rd (M := nb) (((unhide Rb).up hU)) (by omega)).mono ?_
      rintro e w2 ⟨v2, rfl, n2, u2⟩
      exact hK _ _ u2 n2
    · intro x w1 K hU hS hO hd hK
      have h1 : NumD (Xa) (na) w1 (x 1).lo (x 1).hi (x 1).v := kval (hd 1 (by decide)).1 rfl
      have h3 : NumD (Xb) (nb) w1 (x 3).lo (x 3).hi (x 3).v := kval (hd 3 (by decide)).1 rfl
      obtain ⟨pa, qa, ra, ta, ea⟩ := (h1.rd (Nat.le_refl _)).agg
      obtain ⟨pb, qb, rb, tb, eb⟩ := (h3.rd (Nat.le_refl _)).agg
      clear hd
      refine Veil.mk ?_; simp only [kgoal, putsFrom, depsOf, List.getD_cons_zero, List.getD_cons_succ, List.contains_nil, List.contains_cons, Nat.zero_add, Nat.reduceAdd, Nat.reduceBEq, Bool.or_false, Bool.false_or, Bool.or_true, Bool.true_or, Bool.false_eq_true, ↓reduceIte, Act.put, List.setIfInBounds_toArray, List.set_cons_zero, List.set_cons_succ]
      simp only [ea, eb]
      go_simp
      exact hK _ _ (up_alloc _ _) ⟨rfl, by show w1.heap.size < (w1.alloc _).heap.size; simp, _, _, _, _, by show [(x 1).v, (x 3).v] = _; rw [ea, eb], heap_alloc_new w1 _⟩
    · intro x w1 K hU hS hO hd hK
      have h4 : Pair2 w1 (x 4) [(x 1).v, (x 3).v] := kval (hd 4 (by decide)).1 rfl
      have h1 : NumD (Xa) (na) w1 (x 1).lo (x 1).hi (x 1).v := kval (hd 1 (by decide)).1 rfl
      have h3 : NumD (Xb) (nb) w1 (x 3).lo (x 3).hi (x 3).v := kval (hd 3 (by decide)).1 rfl
      obtain ⟨ep, -, b1, v1, b2, v2, ql, hb⟩ := h4
      have ea := (List.cons.inj ql).1
      have eb := (List.cons.inj (List.cons.inj ql).2).1
      rw [ea] at h1
      rw [eb] at h3
      clear hd
      refine Veil.mk ?_; simp only [kgoal, putsFrom, depsOf, List.getD_cons_zero, List.getD_cons_succ, List.contains_nil, List.contains_cons, Nat.zero_add, Nat.reduceAdd, Nat.reduceBEq, Bool.or_false, Bool.false_or, Bool.or_true, Bool.true_or, Bool.false_eq_true, ↓reduceIte, Act.put, List.setIfInBounds_toArray, List.set_cons_zero, List.set_cons_succ]
      simp only [ep]
      go_simp
      refine (mul2_rd (M1 := na) (M2 := nb) hb (h1.rd (by omega)) (h3.rd (by omega)) (by omega)).mono ?_
      rintro e w2 ⟨v2, rfl, n2, u2⟩
      exact hK _ _ u2 n2
    · intro x w1 K hU hS hO hd hK
      obtain ⟨k0, k1, -⟩ := cells2 ((B1.tr (Up.tr (up_drew _) (hS.upb rfl))).blk (unhide K3).1)
      clear hd
      refine Veil.mk ?_; simp only [kgoal, putsFrom, depsOf, List.getD_cons_zero, List.getD_cons_succ, List.contains_nil, List.contains_cons, Nat.zero_add, Nat.reduceAdd, Nat.reduceBEq, Bool.or_false, Bool.false_or, Bool.or_true, Bool.true_or, Bool.false_eq_true, ↓reduceIte, Act.put, List.setIfInBounds_toArray, List.set_cons_zero, List.set_cons_succ]
      go_simp
      exact hK _ _ (Up.refl _) rfl
    · intro x w1 K hU hS hO hd hK
      have h6 : (x 6).v = .agg #[.bool ba, .slice aoa na capa] := kval (hd 6 (by decide)).1 rfl
      clear hd
      refine Veil.mk ?_; simp only [kgoal, putsFrom, depsOf, List.getD_cons_zero, List.getD_cons_succ, List.contains_nil, List.contains_cons, Nat.zero_add, Nat.reduceAdd, Nat.reduceBEq, Bool.or_false, Bool.false_or, Bool.or_true, Bool.true_or, Bool.false_eq_true, ↓reduceIte, Act.put, List.setIfInBounds_toArray, List.set_cons_zero, List.set_cons_succ]
      simp only [h6]
      go_simp
      refine (c_rd (M := na) (((unhide Ra).up hU)) (by omega)).mono ?_
      rintro e w2 ⟨v2, rfl, n2, u2⟩
      exact hK _ _ u2 n2
    · intro x w1 K hU hS hO hd hK
      obtain ⟨k0, k1, -⟩ := cells2 ((B1.tr (Up.tr (up_drew _) (hS.upb rfl))).blk (unhide K3).2.2)
      clear hd
      refine Veil.mk ?_; simp only [kgoal, putsFrom, depsOf, List.getD_cons_zero, List.getD_cons_succ, List.contains_nil, List.contains_cons, Nat.zero_add, Nat.reduceAdd, Nat.reduceBEq, Bool.or_false, Bool.false_or, Bool.or_true, Bool.true_or, Bool.false_eq_true, ↓reduceIte, Act.put, List.setIfInBounds_toArray, List.set_cons_zero, List.set_cons_succ]
      go_simp
      exact hK _ _ (Up.refl _) rfl
    · intro x w1 K hU hS hO hd hK
      have h8 : (x 8).v = .agg #[.bool bd, .slice aod nd capd] := kval (hd 8 (by decide)).1 rfl
      clear hd
      refine Veil.mk ?_; simp only [kgoal, putsFrom, depsOf, List.getD_cons_zero, List.getD_cons_succ, List.contains_nil, List.contains_cons, Nat.zero_add, Nat.reduceAdd, Nat.reduceBEq, Bool.or_false, Bool.false_or, Bool.or_true, Bool.true_or, Bool.false_eq_true, ↓reduceIte, Act.put, List.setIfInBounds_toArray, List.set_cons_zero, List.set_cons_succ]
      simp only [h8]
      go_simp
      refine (c_rd (M := nd) (((unhide Rd).up hU)) (by omega)).mono ?_
      rintro e w2 ⟨v2, rfl, n2, u2⟩
      exact hK _ _ u2 n2
    · intro x w1 K hU hS hO hd hK
      have h7 : NumD (Xa) (na) w1 (x 7).lo (x 7).hi (x 7).v := kval (hd 7 (by decide)).1 rfl
      have h9 : NumD (Xd) (nd) w1 (x 9).lo (x 9).hi (x 9).v := kval (hd 9 (by decide)).1 rfl
      obtain ⟨pa, qa, ra, ta, ea⟩ := (h7.rd (Nat.le_refl _)).agg
      obtain ⟨pb, qb, rb, tb, eb⟩ := (h9.rd (Nat.le_refl _)).agg
      clear hd
      refine Veil.mk ?_; simp only [kgoal, putsFrom, depsOf, List.getD_cons_zero, List.getD_cons_succ, List.contains_nil, List.contains_cons, Nat.zero_add, Nat.reduceAdd, Nat.reduceBEq, Bool.or_false, Bool.false_or, Bool.or_true, Bool.true_or, Bool.false_eq_true, ↓reduceIte, Act.put, List.setIfInBounds_toArray, List.set_cons_zero, List.set_cons_succ]
      simp only [ea, eb]
      go_simp
      exact hK _ _ (up_alloc _ _) ⟨rfl, by show w1.heap.size < (w1.alloc _).heap.size; simp, _, _, _, _, by show [(x 7).v, (x 9).v] = _; rw [ea, eb], heap_alloc_new w1 _⟩
    · intro x w1 K hU hS hO hd hK
      have h10 : Pair2 w1 (x 10) [(x 7).v, (x 9).v] := kval (hd 10 (by decide)).1 rfl
      have h7 : NumD (Xa) (na) w1 (x 7).lo (x 7).hi (x 7).v := kval (hd 7 (by decide)).1 rfl
      have h9 : NumD (Xd) (nd) w1 (x 9).lo (x 9).hi (x 9).v := kval (hd 9 (by decide)).1 rfl
      obtain ⟨ep, -, b1, v1, b2, v2, ql, hb⟩ := h10
      have ea := (List.cons.inj ql).1
      have eb := (List.cons.inj (List.cons.inj ql).2).1
      rw [ea] at h7
      rw [eb] at h9
      clear hd
      refine Veil.mk ?_; simp only [kgoal, putsFrom, depsOf, List.getD_cons_zero, List.getD_cons_succ, List.contains_nil, List.contains_cons, Nat.zero_add, Nat.reduceAdd, Nat.reduceBEq, Bool.or_false, Bool.false_or, Bool.or_true, Bool.true_or, Bool.false_eq_true, ↓reduceIte, Act.put, List.setIfInBounds_toArray, List.set_cons_zero, List.set_cons_succ]
      simp only [ep]
      go_simp
      refine (mul2_rd (M1 := na) (M2 := nd) hb (h7.rd (by omega)) (h9.rd (by omega)) (by omega)).mono ?_
      rintro e w2 ⟨v2, rfl, n2, u2⟩
      exact hK _ _ u2 n2
    · intro x w1 K hU hS hO hd hK
      have h5 : NumIn (Xa * Xb) ((na) + (nb)) w1 (x 5).lo (x 5).hi (x 5).v := kval (hd 5 (by decide)).1 rfl
      have h11 : NumIn (Xa * Xd) ((na) + (nd)) w1 (x 11).lo (x 11).hi (x 11).v := kval (hd 11 (by decide)).1 rfl
      obtain ⟨pa, qa, ra, ta, ea⟩ := (h5.rd (Nat.le_refl _)).agg
      obtain ⟨pb, qb, rb, tb, eb⟩ := (h11.rd (Nat.le_refl _)).agg
      clear hd
      refine Veil.mk ?_; simp only [kgoal, putsFrom, depsOf, List.getD_cons_zero, List.getD_cons_succ, List.contains_nil, List.contains_cons, Nat.zero_add, Nat.reduceAdd, Nat.reduceBEq, Bool.or_false, Bool.false_or, Bool.or_true, Bool.true_or, Bool.false_eq_true, ↓reduceIte, Act.put, List.setIfInBounds_toArray, List.set_cons_zero, List.set_cons_succ]
      simp only [ea, eb]
      go_simp
      exact hK _ _ (up_alloc _ _) ⟨rfl, by show w1.heap.size < (w1.alloc _).heap.size; simp, _, _, _, _, by show [(x 5).v, (x 11).v] = _; rw [ea, eb], heap_alloc_new w1 _⟩
    · intro x w1 K hU hS hO hd hK
      have h12 : Pair2 w1 (x 12) [(x 5).v, (x 11).v] := kval (hd 12 (by decide)).1 rfl
      have h5 : NumIn (Xa * Xb) ((na) + (nb)) w1 (x 5).lo (x 5).hi (x 5).v := kval (hd 5 (by decide)).1 rfl
      have h11 : NumIn (Xa * Xd) ((na) + (nd)) w1 (x 11).lo (x 11).hi (x 11).v := kval (hd 11 (by decide)).1 rfl
      obtain ⟨ep, -, b1, v1, b2, v2, ql, hb⟩ := h12
      have ea := (List.cons.inj ql).1
      have eb := (List.cons.inj (List.cons.inj ql).2).1
      rw [ea] at h5
      rw [eb] at h11
      clear hd
      refine Veil.mk ?_; simp only [kgoal, putsFrom, depsOf, List.getD_cons_zero, List.getD_cons_succ, List.contains_nil, List.contains_cons, Nat.zero_add, Nat.reduceAdd, Nat.reduceBEq, Bool.or_false, Bool.false_or, Bool.or_true, Bool.true_or, Bool.false_eq_true, ↓reduceIte, Act.put, List.setIfInBounds_toArray, List.set_cons_zero, List.set_cons_succ]
      simp only [ep]
      go_simp
      refine (add2_rd (M := 70368744175616) hb (h5.rd (by omega)) (h11.rd (by omega)) (by omega)).mono ?_
      rintro e w2 ⟨v2, rfl, n2, u2⟩
      exact hK _ _ u2 n2
    · intro x w1 K hU hS hO hd hK
      refine Veil.mk ?_; simp only [kgoal, putsFrom, depsOf, List.getD_cons_zero, List.getD_cons_succ, List.contains_nil, List.contains_cons, Nat.zero_add, Nat.reduceAdd, Nat.reduceBEq, Bool.or_false, Bool.false_or, Bool.or_true, Bool.true_or, Bool.false_eq_true, ↓reduceIte, Act.put, List.setIfInBounds_toArray, List.set_cons_zero, List.set_cons_succ]
      go_simp
      exact hK _ _ (up_alloc _ _) (box_new rfl hS)
    · intro x w1 K hU hS hO hd hK
      obtain ⟨c0, c1, eb, hb⟩ := kbox2 (hd 14 (by decide)).1 rfl
      have h13 : NumIn ((Xa * Xb) + (Xa * Xd)) (70368744175616 + 1) w1 (x 13).lo (x 13).hi (x 13).v := kval (hd 13 (by decide)).1 rfl
      obtain ⟨pa, qa, ra, ta, es⟩ := (h13.rd (Nat.le_refl _)).agg
      clear h13
      obtain ⟨d0, d1, f0, f1, -⟩ := cells2 hb
      clear hd
      refine Veil.mk ?_; simp only [kgoal, putsFrom, depsOf, List.getD_cons_zero, List.getD_cons_succ, List.contains_nil, List.contains_cons, Nat.zero_add, Nat.reduceAdd, Nat.reduceBEq, Bool.or_false, Bool.false_or, Bool.or_true, Bool.true_or, Bool.false_eq_true, ↓reduceIte, Act.put, List.setIfInBounds_toArray, List.set_cons_zero, List.set_cons_succ]
      go_simp
      exact hK _ _ (sto_two hb _ _).1 ⟨_, rfl, es, (sto_two hb _ _).2⟩
    · intro x w1 hU hS hR hlo hdis
      have hx : NumIn ((Xa * Xb) + (Xa * Xd)) (70368744175616 + 1) w1 (x 13).lo (x 13).hi (x 13).v := kval (hR 13 (by decide)) rfl
      obtain ⟨bq, aoq, nq, capq, ex⟩ := (hx.rd (Nat.le_refl _)).agg
      rw [ex] at hx
      obtain ⟨cs, -, q0, Tq⟩ := ksto (hR 15 (by decide)) rfl
      rw [ex] at q0
      cases q0
      obtain ⟨eb, -⟩ := kbox (hR 14 (by decide)) rfl
      have hG := hS.upb rfl
      have Cq := hide hx.rc
      have zq := (hlo 14 (by decide)).1
      refine Veil.mk ?_; simp only [kgoal, putsFrom, depsOf, List.getD_cons_zero, List.getD_cons_succ, List.contains_nil, List.contains_cons, Nat.zero_add, Nat.reduceAdd, Nat.reduceBEq, Bool.or_false, Bool.false_or, Bool.or_true, Bool.true_or, Bool.false_eq_true, ↓reduceIte, Act.put, List.setIfInBounds_toArray, List.set_cons_zero, List.set_cons_succ]
      rw [eb]
      generalize (x 0).v = y0q at *
      generalize (x 1).v = y1q at *
      generalize (x 2).v = y2q at *
      generalize (x 3).v = y3q at *
      generalize (x 4).v = y4q at *
      generalize (x 5).v = y5q at *
      generalize (x 6).v = y6q at *
      generalize (x 7).v = y7q at *
      generalize (x 8).v = y8q at *
      generalize (x 9).v = y9q at *
      generalize (x 10).v = y10q at *
      generalize (x 11).v = y11q at *
      generalize (x 12).v = y12q at *
      generalize (x 13).v = y13q at *
      generalize (x 14).lo = gq at *
      have B2' := Up.tr (up_drew _) hG
      have B2 := B1.tr B2'
      have U2 := hU
      clear hR hlo hdis hS hx ex hG eb hU
      go_wp2_with fail
      refine wp_region_knd (by kernel_rfl) w U2 [[], [], [0, 1], [2], [3], [4, 3], [5, 3], [6, 3], [3], [8, 3], [9, 3], [10, 9, 3], [7, 11, 3], [3, 12], [13], [14], [15, 14], [14], [17, 14], [16, 18, 14], [14], [20, 14], [14], [22, 14], [23, 14], [21, 24, 14], [25, 21, 24, 14], [19, 26, 14], [14, 27], [28], [29], [29, 30], [31]] (Knd.val [] (fun _ g _ => g.v = .agg #[.bool bp, .slice aop np capp]) :: Knd.val [] (fun _ g _ => g.v = .agg #[.bool bq, .slice aoq nq capq]) :: Knd.val [] (fun _ g _ => g.v = .bool true) :: Knd.val [] (fun _ g _ => g.v = .bool true) :: Knd.val [] (fun _ g _ => g.v = .agg #[.bool ba, .slice aoa na capa]) :: Knd.val [] (fun w g _ => NumD (Xa) (na) w g.lo g.hi g.v) :: Knd.val [] (fun w g _ => NumIn (-(Xa)) (na) w g.lo g.hi g.v) :: Knd.val [] (fun w g _ => NumIn (-(-(Xa))) (na) w g.lo g.hi g.v) :: Knd.val [] (fun _ g _ => g.v = .agg #[.bool ba, .slice aoa na capa]) :: Knd.val [] (fun w g _ => NumD (Xa) (na) w g.lo g.hi g.v) :: Knd.val [9] (fun w g vs => Pair1 w g vs) :: Knd.val [] (fun w g _ => NumIn (Xa) (na + 1) w g.lo g.hi g.v) :: Knd.val [] (fun _ g _ => g.v = .bool true) :: Knd.val [] (fun _ g _ => g.v = .bool true) :: Knd.val [] (fun _ g _ => g.v = .bool true) :: Knd.val [] (fun _ g _ => g.v = .agg #[.bool ba, .slice aoa na capa]) :: Knd.val [] (fun w g _ => NumD (Xa) (na) w g.lo g.hi g.v) :: Knd.val [] (fun _ g _ => g.v = .agg #[.bool bb, .slice aob nb capb]) :: Knd.val [] (fun w g _ => NumD (Xb) (nb) w g.lo g.hi g.v) :: Knd.val [] (fun w g _ => NumIn (Xa - Xb) (35184372087808 + 1) w g.lo g.hi g.v) :: Knd.val [] (fun _ g _ => g.v = .agg #[.bool ba, .slice aoa na capa]) :: Knd.val [] (fun w g _ => NumD (Xa) (na) w g.lo g.hi g.v) :: Knd.val [] (fun _ g _ => g.v = .agg #[.bool bb, .slice aob nb capb]) :: Knd.val [] (fun w g _ => NumD (Xb) (nb) w g.lo g.hi g.v) :: Knd.val [] (fun w g _ => NumIn (-(Xb)) (nb) w g.lo g.hi g.v) :: Knd.val [21, 24] (fun w g vs => Pair2 w g vs) :: Knd.val [] (fun w g _ => NumIn (Xa + (-(Xb))) (35184372087808 + 1) w g.lo g.hi g.v) :: Knd.val [] (fun _ g _ => g.v = .bool true) :: Knd.val [] (fun _ g _ => g.v = .bool true) :: Knd.val [] (fun _ g _ => g.v = .bool true) :: Knd.val [] (fun _ g _ => g.v = .bool true) :: Knd.val [] (fun _ g _ => g.v = .bool true) :: Knd.val [] (fun _ g _ => g.v = .bool true) :: []) (by kernel_rfl) (by kernel_rfl) rfl ⟨trivial, trivial, trivial, trivial, trivial, trivial, trivial, trivial, trivial, trivial, trivial, trivial, trivial, trivial, trivial, trivial, trivial, trivial, trivial, trivial, trivial, trivial, trivial, trivial, trivial, trivial, trivial, trivial, trivial, trivial, trivial, trivial, trivial, trivial⟩ ⟨fun _ _ _ _ _ h => h, fun _ _ _ _ _ h => h, fun _ _ _ _ _ h => h, fun _ _ _ _ _ h => h, fun _ _ _ _ _ h => h, fun _ _ _ _ hb h => h.keep hb, fun _ _ _ _ hb h => h.keep hb, fun _ _ _ _ hb h => h.keep hb, fun _ _ _ _ _ h => h, fun _ _ _ _ hb h => h.keep hb, fun _ _ _ _ hb h => h.keep hb, fun _ _ _ _ hb h => h.keep hb, fun _ _ _ _ _ h => h, fun _ _ _ _ _ h => h, fun _ _ _ _ _ h => h, fun _ _ _ _ _ h => h, fun _ _ _ _ hb h => h.keep hb, fun _ _ _ _ _ h => h, fun _ _ _ _ hb h => h.keep hb, fun _ _ _ _ hb h => h.keep hb, fun _ _ _ _ _ h => h, fun _ _ _ _ hb h => h.keep hb, fun _ _ _ _ _ h => h, fun _ _ _ _ hb h => h.keep hb, fun _ _ _ _ hb h => h.keep hb, fun _ _ _ _ hb h => h.keep hb, fun _ _ _ _ hb h => h.keep hb, fun _ _ _ _ _ h => h, fun _ _ _ _ _ h => h, fun _ _ _ _ _ h => h, fun _ _ _ _ _ h => h, fun _ _ _ _ _ h => h, fun _ _ _ _ _ h => h, trivial⟩ ⟨?_, ?_, ?_, ?_, ?_, ?_, ?_, ?_, ?_, ?_, ?_, ?_, ?_, ?_, ?_, ?_, ?_, ?_, ?_, ?_, ?_, ?_, ?_, ?_, ?_, ?_, ?_, ?_, ?_, ?_, ?_, ?_, ?_, trivial⟩ ?_
      · intro x w1 K hU hS hO hd hK
        obtain ⟨k0, k1, -⟩ := cells2 ((B2'.tr (Up.tr (up_drew _) (hS.upb rfl))).blk Tp)
        clear hd
        refine Veil.mk ?_; simp only [kgoal, putsFrom, depsOf, List.getD_cons_zero, List.getD_cons_succ, List.contains_nil, List.contains_cons, Nat.zero_add, Nat.reduceAdd, Nat.reduceBEq, Bool.or_false, Bool.false_or, Bool.or_true, Bool.true_or, Bool.false_eq_true, ↓reduceIte, Act.put, List.setIfInBounds_toArray, List.set_cons_zero, List.set_cons_succ]
        go_simp
        exact hK _ _ (Up.refl _) rfl
      · intro x w1 K hU hS hO hd hK
        obtain ⟨k0, k1, -⟩ := cells2 ((Up.tr (up_drew _) (hS.upb rfl)).blk Tq)
        clear hd
        refine Veil.mk ?_; simp only [kgoal, putsFrom, depsOf, List.getD_cons_zero, List.getD_cons_succ, List.contains_nil, List.contains_cons, Nat.zero_add, Nat.reduceAdd, Nat.reduceBEq, Bool.or_false, Bool.false_or, Bool.or_true, Bool.true_or, Bool.false_eq_true, ↓reduceIte, Act.put, List.setIfInBounds_toArray, List.set_cons_zero, List.set_cons_succ]
        go_simp
        exact hK _ _ (Up.refl _) rfl
      · intro x w1 K hU hS hO hd hK
        have h0 : (x 0).v = .agg #[.bool bp, .slice aop np capp] := kval (hd 0 (by decide)).1 rfl
        have h1 : (x 1).v = .agg #[.bool bq, .slice aoq nq capq] := kval (hd 1 (by decide)).1 rfl
        clear hd
        refine Veil.mk ?_; simp only [kgoal, putsFrom, depsOf, List.getD_cons_zero, List.getD_cons_succ, List.contains_nil, List.contains_cons, Nat.zero_add, Nat.reduceAdd, Nat.reduceBEq, Bool.or_false, Bool.false_or, Bool.or_true, Bool.true_or, Bool.false_eq_true, ↓reduceIte, Act.put, List.setIfInBounds_toArray, List.set_cons_zero, List.set_cons_succ]
        simp only [h0, h1]
        go_simp
        refine (same_rd ((unhide Cp).up (B2'.tr (Up.tr (up_drew _) (hS.upb rfl)))) ((unhide Cq).up (Up.tr (up_drew _) (hS.upb rfl))) (by rw [Int.mul_add])).mono ?_
        rintro e w2 ⟨v2, rfl, n2, u2⟩
        exact hK _ _ u2 n2
      · intro x w1 K hU hS hO hd hK
        have h2 : (x 2).v = .bool true := kval (hd 2 (by decide)).1 rfl
        clear hd
        refine Veil.mk ?_; simp only [kgoal, putsFrom, depsOf, List.getD_cons_zero, List.getD_cons_succ, List.contains_nil, List.contains_cons, Nat.zero_add, Nat.reduceAdd, Nat.reduceBEq, Bool.or_false, Bool.false_or, Bool.or_true, Bool.true_or, Bool.false_eq_true, ↓reduceIte, Act.put, List.setIfInBounds_toArray, List.set_cons_zero, List.set_cons_succ]
        simp only [h2]
        go_simp
        exact hK _ _ (Up.refl _) rfl
      · intro x w1 K hU hS hO hd hK
        have h3 : (x 3).v = .bool true := kval (hd 3 (by decide)).1 rfl
        obtain ⟨k0, k1, -⟩ := cells2 ((B2.tr (Up.tr (up_drew _) (hS.upb rfl))).blk (unhide K3).1)
        clear hd
        refine Veil.mk ?_; simp only [kgoal, putsFrom, depsOf, List.getD_cons_zero, List.getD_cons_succ, List.contains_nil, List.contains_cons, Nat.zero_add, Nat.reduceAdd, Nat.reduceBEq, Bool.or_false, Bool.false_or, Bool.or_true, Bool.true_or, Bool.false_eq_true, ↓reduceIte, Act.put, List.setIfInBounds_toArray, List.set_cons_zero, List.set_cons_succ]
        simp only [h3]
        rw [if_pos (by rfl)]
        go_simp
        exact hK _ _ (Up.refl _) rfl
      · intro x w1 K hU hS hO hd hK
        have h4 : (x 4).v = .agg #[.bool ba, .slice aoa na capa] := kval (hd 4 (by decide)).1 rfl
        have h3 : (x 3).v = .bool true := kval (hd 3 (by decide)).1 rfl
        clear hd
        refine Veil.mk ?_; simp only [kgoal, putsFrom, depsOf, List.getD_cons_zero, List.getD_cons_succ, List.contains_nil, List.contains_cons, Nat.zero_add, Nat.reduceAdd, Nat.reduceBEq, Bool.or_false, Bool.false_or, Bool.or_true, Bool.true_or, Bool.false_eq_true, ↓reduceIte, Act.put, List.setIfInBounds_toArray, List.set_cons_zero, List.set_cons_succ]
        simp only [h4, h3]
        rw [if_pos (by rfl)]
        go_simp
        refine (c_rd (M := na) (((unhide Ra).up hU)) (by omega)).mono ?_
        rintro e w2 ⟨v2, rfl, n2, u2⟩
        exact hK _ _ u2 n2
      · intro x w1 K hU hS hO hd hK
        have h5 : NumD (Xa) (na) w1 (x 5).lo (x 5).hi (x 5).v := kval (hd 5 (by decide)).1 rfl
        have h3 : (x 3).v = .bool true := kval (hd 3 (by decide)).1 rfl
        clear hd
        refine Veil.mk ?_; simp only [kgoal, putsFrom, depsOf, List.getD_cons_zero, List.getD_cons_succ, List.contains_nil, List.contains_cons, Nat.zero_add, Nat.reduceAdd, Nat.reduceBEq, Bool.or_false, Bool.false_or, Bool.or_true, Bool.true_or, Bool.false_eq_true, ↓reduceIte, Act.put, List.setIfInBounds_toArray, List.set_cons_zero, List.set_cons_succ]
        simp only [h3]
        rw [if_pos (by rfl)]
        go_simp
        refine (neg_rd (M := na) (h5.rd (by omega)) (by omega)).mono ?_
        rintro e w2 ⟨v2, rfl, n2, u2⟩
        exact hK _ _ u2 n2
      · intro x w1 K hU hS hO hd hK
        have h6 : NumIn (-(Xa)) (na) w1 (x 6).lo (x 6).hi (x 6).v := kval (hd 6 (by decide)).1 rfl
        have h3 : (x 3).v = .bool true := kval (hd 3 (by decide)).1 rfl
        clear hd
        refine Veil.mk ?_; simp only [kgoal, putsFrom, depsOf, List.getD_cons_zero, List.getD_cons_succ, List.contains_nil, List.contains_cons, Nat.zero_add, Nat.reduceAdd, Nat.reduceBEq, Bool.or_false, Bool.false_or, Bool.or_true, Bool.true_or, Bool.false_eq_true, ↓reduceIte, Act.put, List.setIfInBounds_toArray, List.set_cons_zero, List.set_cons_succ]
        simp only [h3]
        rw [if_pos (by rfl)]
        go_simp
        refine (neg_rd (M := na) (h6.rd (by omega)) (by omega)).mono ?_
        rintro e w2 ⟨v2, rfl, n2, u2⟩
        exact hK _ _ u2 n2
      · intro x w1 K hU hS hO hd hK
        have h3 : (x 3).v = .bool true := kval (hd 3 (by decide)).1 rfl
        obtain ⟨k0, k1, -⟩ := cells2 ((B2.tr (Up.tr (up_drew _) (hS.upb rfl))).blk (unhide K3).1)
        clear hd
        refine Veil.mk ?_; simp only [kgoal, putsFrom, depsOf, List.getD_cons_zero, List.getD_cons_succ, List.contains_nil, List.contains_cons, Nat.zero_add, Nat.reduceAdd, Nat.reduceBEq, Bool.or_false, Bool.false_or, Bool.or_true, Bool.true_or, Bool.false_eq_true, ↓reduceIte, Act.put, List.setIfInBounds_toArray, List.set_cons_zero, List.set_cons_succ]
        simp only [h3]
        rw [if_pos (by rfl)]
        go_simp
        exact hK _ _ (Up.refl _) rfl
      · intro x w1 K hU hS hO hd hK
        have h8 : (x 8).v = .agg #[.bool ba, .slice aoa na capa] := kval (hd 8 (by decide)).1 rfl
        have h3 : (x 3).v = .bool true := kval (hd 3 (by decide)).1 rfl
        clear hd
        refine Veil.mk ?_; simp only [kgoal, putsFrom, depsOf, List.getD_cons_zero, List.getD_cons_succ, List.contains_nil, List.contains_cons, Nat.zero_add, Nat.reduceAdd, Nat.reduceBEq, Bool.or_false, Bool.false_or, Bool.or_true, Bool.true_or, Bool.false_eq_true, ↓reduceIte, Act.put, List.setIfInBounds_toArray, List.set_cons_zero, List.set_cons_succ]
        simp only [h8, h3]
        rw [if_pos (by rfl)]
        go_simp
        refine (c_rd (M := na) (((unhide Ra).up hU)) (by omega)).mono ?_
        rintro e w2 ⟨v2, rfl, n2, u2⟩
        exact hK _ _ u2 n2
      · intro x w1 K hU hS hO hd hK
        have h9 : NumD (Xa) (na) w1 (x 9).lo (x 9).hi (x 9).v := kval (hd 9 (by decide)).1 rfl
        have h3 : (x 3).v = .bool true := kval (hd 3 (by decide)).1 rfl
        obtain ⟨pa, qa, ra, ta, ea⟩ := (h9.rd (Nat.le_refl _)).agg
        clear hd
        refine Veil.mk ?_; simp only [kgoal, putsFrom, depsOf, List.getD_cons_zero, List.getD_cons_succ, List.contains_nil, List.contains_cons, Nat.zero_add, Nat.reduceAdd, Nat.reduceBEq, Bool.or_false, Bool.false_or, Bool.or_true, Bool.true_or, Bool.false_eq_true, ↓reduceIte, Act.put, List.setIfInBounds_toArray, List.set_cons_zero, List.set_cons_succ]
        simp only [ea, h3]
        rw [if_pos (by rfl)]
        go_simp
        exact hK _ _ (up_alloc _ _) ⟨rfl, by show w1.heap.size < (w1.alloc _).heap.size; simp, _, _, by show [(x 9).v] = _; rw [ea], heap_alloc_new w1 _⟩
      · intro x w1 K hU hS hO hd hK
        have h10 : Pair1 w1 (x 10) [(x 9).v] := kval (hd 10 (by decide)).1 rfl
        have h9 : NumD (Xa) (na) w1 (x 9).lo (x 9).hi (x 9).v := kval (hd 9 (by decide)).1 rfl
        have h3 : (x 3).v = .bool true := kval (hd 3 (by decide)).1 rfl
        obtain ⟨ep, -, b1, v1, ql, hb⟩ := h10
        have ea := (List.cons.inj ql).1
        rw [ea] at h9
        clear hd
        refine Veil.mk ?_; simp only [kgoal, putsFrom, depsOf, List.getD_cons_zero, List.getD_cons_succ, List.contains_nil, List.contains_cons, Nat.zero_add, Nat.reduceAdd, Nat.reduceBEq, Bool.or_false, Bool.false_or, Bool.or_true, Bool.true_or, Bool.false_eq_true, ↓reduceIte, Act.put, List.setIfInBounds_toArray, List.set_cons_zero, List.set_cons_succ]
        simp only [ep, h3]
        rw [if_pos (by rfl)]
        go_simp
        refine (add1_rd (M := na) hb (h9.rd (by omega)) (by omega)).mono ?_
        rintro e w2 ⟨v2, rfl, n2, u2⟩
        exact hK _ _ u2 n2
      · intro x w1 K hU hS hO hd hK
        have h7 : NumIn (-(-(Xa))) (na) w1 (x 7).lo (x 7).hi (x 7).v := kval (hd 7 (by decide)).1 rfl
        have h11 : NumIn (Xa) (na + 1) w1 (x 11).lo (x 11).hi (x 11).v := kval (hd 11 (by decide)).1 rfl
        have h3 : (x 3).v = .bool true := kval (hd 3 (by decide)).1 rfl
        clear hd
        refine Veil.mk ?_; simp only [kgoal, putsFrom, depsOf, List.getD_cons_zero, List.getD_cons_succ, List.contains_nil, List.contains_cons, Nat.zero_add, Nat.reduceAdd, Nat.reduceBEq, Bool.or_false, Bool.false_or, Bool.or_true, Bool.true_or, Bool.false_eq_true, ↓reduceIte, Act.put, List.setIfInBounds_toArray, List.set_cons_zero, List.set_cons_succ]
        simp only [h3]
        rw [if_pos (by rfl)]
        go_simp
        refine (same_rd h7.rc h11.rc (by omega)).mono ?_
        rintro e w2 ⟨v2, rfl, n2, u2⟩
        exact hK _ _ u2 n2
      · intro x w1 K hU hS hO hd hK
        have h3 : (x 3).v = .bool true := kval (hd 3 (by decide)).1 rfl
        have h12 : (x 12).v = .bool true := kval (hd 12 (by decide)).1 rfl
        clear hd
        refine Veil.mk ?_; simp only [kgoal, putsFrom, depsOf, List.getD_cons_zero, List.getD_cons_succ, List.contains_nil, List.contains_cons, Nat.zero_add, Nat.reduceAdd, Nat.reduceBEq, Bool.or_false, Bool.false_or, Bool.or_true, Bool.true_or, Bool.false_eq_true, ↓reduceIte, Act.put, List.setIfInBounds_toArray, List.set_cons_zero, List.set_cons_succ]
        simp only [h3, h12]
        go_simp
        exact hK _ _ (Up.refl _) rfl
      · intro x w1 K hU hS hO hd hK
        have h13 : (x 13).v = .bool true := kval (hd 13 (by decide)).1 rfl
        clear hd
        refine Veil.mk ?_; simp only [kgoal, putsFrom, depsOf, List.getD_cons_zero, List.getD_cons_succ, List.contains_nil, List.contains_cons, Nat.zero_add, Nat.reduceAdd, Nat.reduceBEq, Bool.or_false, Bool.false_or, Bool.or_true, Bool.true_or, Bool.false_eq_true, ↓reduceIte, Act.put, List.setIfInBounds_toArray, List.set_cons_zero, List.set_cons_succ]
        simp only [h13]
        go_simp
        exact hK _ _ (Up.refl _) rfl
      · intro x w1 K hU hS hO hd hK
        have h14 : (x 14).v = .bool true := kval (hd 14 (by decide)).1 rfl
        obtain ⟨k0, k1, -⟩ := cells2 ((B2.tr (Up.tr (up_drew _) (hS.upb rfl))).blk (unhide K3).1)
        clear hd
        refine Veil.mk ?_; simp only [kgoal, putsFrom, depsOf, List.getD_cons_zero, List.getD_cons_succ, List.contains_nil, List.contains_cons, Nat.zero_add, Nat.reduceAdd, Nat.reduceBEq, Bool.or_false, Bool.false_or, Bool.or_true, Bool.true_or, Bool.false_eq_true, ↓reduceIte, Act.put, List.setIfInBounds_toArray, List.set_cons_zero, List.set_cons_succ]
        simp only [h14]
        rw [if_pos (by rfl)]
        go_simp
        exact hK _ _ (Up.refl _) rfl
      · intro x w1 K hU hS hO hd hK
        have h15 : (x 15).v = .agg #[.bool ba, .slice aoa na capa] := kval (hd 15 (by decide)).1 rfl
        have h14 : (x 14).v = .bool true := kval (hd 14 (by decide)).1 rfl
        clear hd
        refine Veil.mk ?_; simp only [kgoal, putsFrom, depsOf, List.getD_cons_zero, List.getD_cons_succ, List.contains_nil, List.contains_cons, Nat.zero_add, Nat.reduceAdd, Nat.reduceBEq, Bool.or_false, Bool.false_or, Bool.or_true, Bool.true_or, Bool.false_eq_true, ↓reduceIte, Act.put, List.setIfInBounds_toArray, List.set_cons_zero, List.set_cons_succ]
        simp only [h15, h14]
        rw [if_pos (by rfl)]
        go_simp
        refine (c_rd (M := na) (((unhide Ra).up hU)) (by omega)).mono ?_
        rintro e w2 ⟨v2, rfl, n2, u2⟩
        exact hK _ _ u2 n2
      · intro x w1 K hU hS hO hd hK
        have h14 : (x 14).v = .bool true := kval (hd 14 (by decide)).1 rfl
        obtain ⟨k0, k1, -⟩ := cells2 ((B2.tr (Up.tr (up_drew _) (hS.upb rfl))).blk (unhide K3).2.1)
        clear hd
        refine Veil.mk ?_; simp only [kgoal, putsFrom, depsOf, List.getD_cons_zero, List.getD_cons_succ, List.contains_nil, List.contains_cons, Nat.zero_add, Nat.reduceAdd, Nat.reduceBEq, Bool.or_false, Bool.false_or, Bool.or_true, Bool.true_or, Bool.false_eq_true, ↓reduceIte, Act.put, List.setIfInBounds_toArray, List.set_cons_zero, List.set_cons_succ]
        simp only [h14]
        rw [if_pos (by rfl)]
        go_simp
        exact hK _ _ (Up.refl _) rfl
      · intro x w1 K hU hS hO hd hK
        have h17 : (x 17).v = .agg #[.bool bb, .slice aob nb capb] := kval (hd 17 (by decide)).1 rfl
        have h14 : (x 14).v = .bool true := kval (hd 14 (by decide)).1 rfl
        clear hd
        refine Veil.mk ?_; simp only [kgoal, putsFrom, depsOf, List.getD_cons_zero, List.getD_cons_succ, List.contains_nil, List.contains_cons, Nat.zero_add, Nat.reduceAdd, Nat.reduceBEq, Bool.or_false, Bool.false_or, Bool.or_true, Bool.true_or, Bool.false_eq_true, ↓reduceIte, Act.put, List.setIfInBounds_toArray, List.set_cons_zero, List.set_cons_succ]
        simp only [h17, h14]
        rw [if_pos (by rfl)]
        go_simp
        refine (c_rd (M := nb) (((unhide Rb).up hU)) (by omega)).mono ?_
        rintro e w2 ⟨v2, rfl, n2, u2⟩
        exact hK _ _ u2 n2
      · intro x w1 K hU hS hO hd hK
        have h16 : NumD (Xa) (na) w1 (x 16).lo (x 16).hi (x 16).v := kval (hd 16 (by decide)).1 rfl
        have h18 : NumD (Xb) (nb) w1 (x 18).lo (x 18).hi (x 18).v := kval (hd 18 (by decide)).1 rfl
        have h14 : (x 14).v = .bool true := kval (hd 14 (by decide)).1 rfl
        clear hd
        refine Veil.mk ?_; simp only [kgoal, putsFrom, depsOf, List.getD_cons_zero, List.getD_cons_succ, List.contains_nil, List.contains_cons, Nat.zero_add, Nat.reduceAdd, Nat.reduceBEq, Bool.or_false, Bool.false_or, Bool.or_true, Bool.true_or, Bool.false_eq_true, ↓reduceIte, Act.put, List.setIfInBounds_toArray, List.set_cons_zero, List.set_cons_succ]
        simp only [h14]
        rw [if_pos (by rfl)]
        go_simp
        refine (sub_rd (M := 35184372087808) (h16.rd (by omega)) (h18.rd (by omega)) (by omega)).mono ?_
        rintro e w2 ⟨v2, rfl, n2, u2⟩
        exact hK _ _ u2 n2
      · intro x w1 K hU hS hO hd hK
        have h14 : (x 14).v = .bool true := kval (hd 14 (by decide)).1 rfl
        obtain ⟨k0, k1, -⟩ := cells2 ((B2.tr (Up.tr (up_drew _) (hS.upb rfl))).blk (unhide K3).1)
        clear hd
        refine Veil.mk ?_; simp only [kgoal, putsFrom, depsOf, List.getD_cons_zero, List.getD_cons_succ, List.contains_nil, List.contains_cons, Nat.zero_add, Nat.reduceAdd, Nat.reduceBEq, Bool.or_false, Bool.false_or, Bool.or_true, Bool.true_or, Bool.false_eq_true, ↓reduceIte, Act.put, List.setIfInBounds_toArray, List.set_cons_zero, List.set_cons_succ]
        simp only [h14]
        rw [if_pos (by rfl)]
        go_simp
        exact hK _ _ (Up.refl _) rfl
      · intro x w1 K hU hS hO hd hK
        have h20 : (x 20).v = .agg #[.bool ba, .slice aoa na capa] := kval (hd 20 (by decide)).1 rfl
        have h14 : (x 14).v = .bool true := kval (hd 14 (by decide)).1 rfl
        clear hd
        refine Veil.mk ?_; simp only [kgoal, putsFrom, depsOf, List.getD_cons_zero, List.getD_cons_succ, List.contains_nil, List.contains_cons, Nat.zero_add, Nat.reduceAdd, Nat.reduceBEq, Bool.or_false, Bool.false_or, Bool.or_true, Bool.true_or, Bool.false_eq_true, ↓reduceIte, Act.put, List.setIfInBounds_toArray, List.set_cons_zero, List.set_cons_succ]
        simp only [h20, h14]
        rw [if_pos (by rfl)]
        go_simp
        refine (c_rd (M := na) (((unhide Ra).up hU)) (by omega)).mono ?_
        rintro e w2 ⟨v2, rfl, n2, u2⟩
        exact hK _ _ u2 n2
      · intro x w1 K hU hS hO hd hK
        have h14 : (x 14).v = .bool true := kval (hd 14 (by decide)).1 rfl
        obtain ⟨k0, k1, -⟩ := cells2 ((B2.tr (Up.tr (up_drew _) (hS.upb rfl))).blk (unhide K3).2.1)
        clear hd
        refine Veil.mk ?_; simp only [kgoal, putsFrom, depsOf, List.getD_cons_zero, List.getD_cons_succ, List.contains_nil, List.contains_cons, Nat.zero_add, Nat.reduceAdd, Nat.reduceBEq, Bool.or_false, Bool.false_or, Bool.or_true, Bool.true_or, Bool.false_eq_true, ↓reduceIte, Act.put, List.setIfInBounds_toArray, List.set_cons_zero, List.set_cons_succ]
        simp only [h14]
        rw [if_pos (by rfl)]
        go_simp
        exact hK _ _ (Up.refl _) rfl
      · intro x w1 K hU hS hO hd hK
        have h22 : (x 22).v = .agg #[.bool bb, .slice aob nb capb] := kval (hd 22 (by decide)).1 rfl
        have h14 : (x 14).v = .bool true := kval (hd 14 (by decide)).1 rfl
        clear hd
        refine Veil.mk ?_; simp only [kgoal, putsFrom, depsOf, List.getD_cons_zero, List.getD_cons_succ, List.contains_nil, List.contains_cons, Nat.zero_add, Nat.reduceAdd, Nat.reduceBEq, Bool.or_false, Bool.false_or, Bool.or_true, Bool.true_or, Bool.false_eq_true, ↓reduceIte, Act.put, List.setIfInBounds_toArray, List.set_cons_zero, List.set_cons_succ]
        simp only [h22, h14]
        rw [if_pos (by rfl)]
        go_simp
        refine (c_rd (M := nb) (((unhide Rb).up hU)) (by omega)).mono ?_
        rintro e w2 ⟨v2, rfl, n2, u2⟩
        exact hK _ _ u2 n2
      · intro x w1 K hU hS hO hd hK
        have h23 : NumD (Xb) (nb) w1 (x 23).lo (x 23).hi (x 23).v := kval (hd 23 (by decide)).1 rfl
        have h14 : (x 14).v = .bool true := kval (hd 14 (by decide)).1 rfl
        clear hd
        refine Veil.mk ?_; simp only [kgoal, putsFrom, depsOf, List.getD_cons_zero, List.getD_cons_succ, List.contains_nil, List.contains_cons, Nat.zero_add, Nat.reduceAdd, Nat.reduceBEq, Bool.or_false, Bool.false_or, Bool.or_true, Bool.true_or, Bool.false_eq_true, ↓reduceIte, Act.put, List.setIfInBounds_toArray, List.set_cons_zero, List.set_cons_succ]
        simp only [h14]
        rw [if_pos (by rfl)]
        go_simp
        refine (neg_rd (M := nb) (h23.rd (by omega)) (by omega)).mono ?_
        rintro e w2 ⟨v2, rfl, n2, u2⟩
        exact hK _ _ u2 n2
      · intro x w1 K hU hS hO hd hK
        have h21 : NumD (Xa) (na) w1 (x 21).lo (x 21).hi (x 21).v := kval (hd 21 (by decide)).1 rfl
        have h24 : NumIn (-(Xb)) (nb) w1 (x 24).lo (x 24).hi (x 24).v := kval (hd 24 (by decide)).1 rfl
        have h14 : (x 14).v = .bool true := kval (hd 14 (by decide)).1 rfl
        obtain ⟨pa, qa, ra, ta, ea⟩ := (h21.rd (Nat.le_refl _)).agg
        obtain ⟨pb, qb, rb, tb, eb⟩ := (h24.rd (Nat.le_refl _)).agg
        clear hd
        refine Veil.mk ?_; simp only [kgoal, putsFrom, depsOf, List.getD_cons_zero, List.getD_cons_succ, List.contains_nil, List.contains_cons, Nat.zero_add, Nat.reduceAdd, Nat.reduceBEq, Bool.or_false, Bool.false_or, Bool.or_true, Bool.true_or, Bool.false_eq_true, ↓reduceIte, Act.put, List.setIfInBounds_toArray, List.set_cons_zero, List.set_cons_succ]
        simp only [ea, eb, h14]
        rw [if_pos (by rfl)]
        go_simp
        exact hK _ _ (up_alloc _ _) ⟨rfl, by show w1.heap.size < (w1.alloc _).heap.size; simp, _, _, _, _, by show [(x 21).v, (x 24).v] = _; rw [ea, eb], heap_alloc_new w1 _⟩
      · intro x w1 K hU hS hO hd hK
        have h25 : Pair2 w1 (x 25) [(x 21).v, (x 24).v] := kval (hd 25 (by decide)).1 rfl
        have h21 : NumD (Xa) (na) w1 (x 21).lo (x 21).hi (x 21).v := kval (hd 21 (by decide)).1 rfl
        have h24 : NumIn (-(Xb)) (nb) w1 (x 24).lo (x 24).hi (x 24).v := kval (hd 24 (by decide)).1 rfl
        have h14 : (x 14).v = .bool true := kval (hd 14 (by decide)).1 rfl
        obtain ⟨ep, -, b1, v1, b2, v2, ql, hb⟩ := h25
        have ea := (List.cons.inj ql).1
        have eb := (List.cons.inj (List.cons.inj ql).2).1
        rw [ea] at h21
        rw [eb] at h24
        clear hd
        refine Veil.mk ?_; simp only [kgoal, putsFrom, depsOf, List.getD_cons_zero, List.getD_cons_succ, List.contains_nil, List.contains_cons, Nat.zero_add, Nat.reduceAdd, Nat.reduceBEq, Bool.or_false, Bool.false_or, Bool.or_true, Bool.true_or, Bool.false_eq_true, ↓reduceIte, Act.put, List.setIfInBounds_toArray, List.set_cons_zero, List.set_cons_succ]
        simp only [ep, h14]
        rw [if_pos (by rfl)]
        go_simp
        refine (add2_rd (M := 35184372087808) hb (h21.rd (by omega)) (h24.rd (by omega)) (by omega)).mono ?_
        rintro e w2 ⟨v2, rfl, n2, u2⟩
        exact hK _ _ u2 n2
      · intro x w1 K hU hS hO hd hK
        have h19 : NumIn (Xa - Xb) (35184372087808 + 1) w1 (x 19).lo (x 19).hi (x 19).v := kval (hd 19 (by decide)).1 rfl
        have h26 : NumIn (Xa + (-(Xb))) (35184372087808 + 1) w1 (x 26).lo (x 26).hi (x 26).v := kval (hd 26 (by decide)).1 rfl
        have h14 : (x 14).v = .bool true := kval (hd 14 (by decide)).1 rfl
        clear hd
        refine Veil.mk ?_; simp only [kgoal, putsFrom, depsOf, List.getD_cons_zero, List.getD_cons_succ, List.contains_nil, List.contains_cons, Nat.zero_add, Nat.reduceAdd, Nat.reduceBEq, Bool.or_false, Bool.false_or, Bool.or_true, Bool.true_or, Bool.false_eq_true, ↓reduceIte, Act.put, List.setIfInBounds_toArray, List.set_cons_zero, List.set_cons_succ]
        simp only [h14]
        rw [if_pos (by rfl)]
        go_simp
        refine (same_rd h19.rc h26.rc (by omega)).mono ?_
        rintro e w2 ⟨v2, rfl, n2, u2⟩
        exact hK _ _ u2 n2
      · intro x w1 K hU hS hO hd hK
        have h14 : (x 14).v = .bool true := kval (hd 14 (by decide)).1 rfl
        have h27 : (x 27).v = .bool true := kval (hd 27 (by decide)).1 rfl
        clear hd
        refine Veil.mk ?_; simp only [kgoal, putsFrom, depsOf, List.getD_cons_zero, List.getD_cons_succ, List.contains_nil, List.contains_cons, Nat.zero_add, Nat.reduceAdd, Nat.reduceBEq, Bool.or_false, Bool.false_or, Bool.or_true, Bool.true_or, Bool.false_eq_true, ↓reduceIte, Act.put, List.setIfInBounds_toArray, List.set_cons_zero, List.set_cons_succ]
        simp only [h14, h27]
        go_simp
        exact hK _ _ (Up.refl _) rfl
      · intro x w1 K hU hS hO hd hK
        have h28 : (x 28).v = .bool true := kval (hd 28 (by decide)).1 rfl
        clear hd
        refine Veil.mk ?_; simp only [kgoal, putsFrom, depsOf, List.getD_cons_zero, List.getD_cons_succ, List.contains_nil, List.contains_cons, Nat.zero_add, Nat.reduceAdd, Nat.reduceBEq, Bool.or_false, Bool.false_or, Bool.or_true, Bool.true_or, Bool.false_eq_true, ↓reduceIte, Act.put, List.setIfInBounds_toArray, List.set_cons_zero, List.set_cons_succ]
        simp only [h28]
        go_simp
        exact hK _ _ (Up.refl _) rfl
      · intro x w1 K hU hS hO hd hK
        have h29 : (x 29).v = .bool true := kval (hd 29 (by decide)).1 rfl
        clear hd
        refine Veil.mk ?_; simp only [kgoal, putsFrom, depsOf, List.getD_cons_zero, List.getD_cons_succ, List.contains_nil, List.contains_cons, Nat.zero_add, Nat.reduceAdd, Nat.reduceBEq, Bool.or_false, Bool.false_or, Bool.or_true, Bool.true_or, Bool.false_eq_true, ↓reduceIte, Act.put, List.setIfInBounds_toArray, List.set_cons_zero, List.set_cons_succ]
        simp only [h29]
        rw [if_pos (by rfl)]
        go_simp
        refine (awake_rd ((unhide HT).up hU)).mono ?_
        rintro e w2 ⟨v2, rfl, n2, u2⟩
        exact hK _ _ u2 n2
      · intro x w1 K hU hS hO hd hK
        have h29 : (x 29).v = .bool true := kval (hd 29 (by decide)).1 rfl
        have h30 : (x 30).v = .bool true := kval (hd 30 (by decide)).1 rfl
        clear hd
        refine Veil.mk ?_; simp only [kgoal, putsFrom, depsOf, List.getD_cons_zero, List.getD_cons_succ, List.contains_nil, List.contains_cons, Nat.zero_add, Nat.reduceAdd, Nat.reduceBEq, Bool.or_false, Bool.false_or, Bool.or_true, Bool.true_or, Bool.false_eq_true, ↓reduceIte, Act.put, List.setIfInBounds_toArray, List.set_cons_zero, List.set_cons_succ]
        simp only [h29, h30]
        go_simp
        exact hK _ _ (Up.refl _) rfl
      · intro x w1 K hU hS hO hd hK
        have h31 : (x 31).v = .bool true := kval (hd 31 (by decide)).1 rfl
        clear hd
        refine Veil.mk ?_; simp only [kgoal, putsFrom, depsOf, List.getD_cons_zero, List.getD_cons_succ, List.contains_nil, List.contains_cons, Nat.zero_add, Nat.reduceAdd, Nat.reduceBEq, Bool.or_false, Bool.false_or, Bool.or_true, Bool.true_or, Bool.false_eq_true, ↓reduceIte, Act.put, List.setIfInBounds_toArray, List.set_cons_zero, List.set_cons_succ]
        simp only [h31]
        go_simp
        exact hK _ _ (Up.refl _) rfl
      · intro x w1 hU hS hR hlo hdis
        have hf : (x 32).v = .bool true := kval (hR 32 (by decide)) rfl
        clear hR hlo hdis
        refine Veil.mk ?_; simp only [kgoal, putsFrom, depsOf, List.getD_cons_zero, List.getD_cons_succ, List.contains_nil, List.contains_cons, Nat.zero_add, Nat.reduceAdd, Nat.reduceBEq, Bool.or_false, Bool.false_or, Bool.or_true, Bool.true_or, Bool.false_eq_true, ↓reduceIte, Act.put, List.setIfInBounds_toArray, List.set_cons_zero, List.set_cons_succ]
        rw [hf]
        go_wp2_with fail
        go_ret
        exact ⟨rfl, hU⟩



end Go.Proofs.YtkmpobmpencefaaDoor
