/-
  What is proved here: tandemlaw02.NumSmallBack answers true for every int64 and every number.
-/
import Derived.Test.YtkmpobmpencefaaDoorNNum
namespace Go.Proofs.YtkmpobmpencefaaDoor
open Go Go.RowKit

theorem cmpZ_ge {x y : Int} : (0 ≤ cmpZ x y) ↔ y ≤ x := by
  unfold cmpZ
  by_cases h : x < y
  · simp [h]
  · by_cases h2 : y < x <;> simp [h, h2] <;> omega
theorem cmpZ_neg0 {x y : Int} : (cmpZ x y < 0) ↔ x < y := by
  unfold cmpZ
  by_cases h : x < y
  · simp [h]
  · by_cases h2 : y < x <;> simp [h, h2]
theorem cmpZ_self (x : Int) : cmpZ x x = 0 := by simp [cmpZ]

set_option linter.unusedSimpArgs false in
set_option linter.unusedSimpArgs false in
set_option maxRecDepth 60000 in
set_option maxHeartbeats 4000000 in
theorem smallBack_walk (z : Int) (a : Value) (b : Bool) (n : Nat) (f : Nat → Nat) (w : World) (ha : Nm w a b n f) (hf : ∀ i, i < n → f i < 4294967296) (h1 : -9223372036854775808 ≤ z) (h2 : z ≤ 9223372036854775807) (hn : 4 * n ≤ 140737488355328) (htab : Tab w) :
    Calls Tryd.prog 15 #[.int .i64 z, a] w fun e w' => e = .returned (.bool true) ∧ Up w w' := by
  obtain ⟨v, rfl, hv⟩ := ha
  obtain ⟨ao, cap, rfl, -⟩ := id hv
  obtain ⟨X, hX⟩ : ∃ X, X = sgn b (num 4294967296 f n) := ⟨_, rfl⟩
  have K1 := hide (heap_alloc_new w (.cells #[.bool b, .slice ao n cap] 26))
  have HV := hide (And.intro hv (And.intro hf (And.intro hn (And.intro htab (And.intro h1 (And.intro h2 hX))))))
  clear hv hf hn htab h1 h2 hX
  go_enter Tryd.func15, Tryd.ntmps15
  go_wp2_with fail
  refine (of_any z _ (unhide HV).2.2.2.2.1 (unhide HV).2.2.2.2.2.1).mono ?_
  rintro e w1 ⟨a1, b1, n1, f1, rfl, o1, u1, c1, l1, s1⟩
  have HS := hide s1
  clear s1
  go_wp2_with fail
  refine (small_z _ b1 n1 f1 z _ o1.nm c1.1.1 (unhide HS)).mono ?_
  rintro e w2 ⟨rfl, u2⟩
  have U2 := ((up_alloc w (.cells #[.bool b, .slice ao n cap] 26))).tr (u1.tr u2)
  have B2 := hide (u1.tr u2)
  obtain ⟨x0, x1, -⟩ := cells2 ((u1.tr u2).blk (unhide K1))
  clear HS o1 c1 l1 u1 u2
  have M : (decide (-2305843009213693952 ≤ z) = true ∧ decide (z < 2305843009213693952) = true ∧ smallV z = z ∧ smallB z = true) ∨ (decide (-2305843009213693952 ≤ z) = false ∧ smallV z = 0 ∧ smallB z = false) ∨ (decide (-2305843009213693952 ≤ z) = true ∧ decide (z < 2305843009213693952) = false ∧ smallV z = 0 ∧ smallB z = false) := by
    by_cases g1 : -2305843009213693952 ≤ z
    · by_cases g2 : z < 2305843009213693952
      · exact .inl ⟨by simpa using g1, by simpa using g2, small_in ⟨g1, g2⟩⟩
      · exact .inr (.inr ⟨by simpa using g1, by simpa using g2, small_out (fun h => g2 h.2)⟩)
    · exact .inr (.inl ⟨by simpa using g1, small_out (fun h => g1 h.1)⟩)
  rcases M with ⟨d1, d2, d3, d4⟩ | ⟨d1, d3, d4⟩ | ⟨d1, d2, d3, d4⟩
  all_goals
    rw [d3, d4]
    clear d3 d4
    go_wp2_with fail
    refine (cnum_any _ b n f _ ⟨_, rfl, (unhide HV).1.up U2⟩ (unhide HV).2.2.1).mono ?_
    rintro e w3 ⟨a3, rfl, o3, u3⟩
    have N3 := hide o3.nm
    have B3 := hide ((unhide B2).tr u3)
    clear o3 u3 x0 x1
    go_wp2_with fail
    refine (small_z _ b n f X _ (unhide N3) (unhide HV).2.1 (unhide HV).2.2.2.2.2.2.symm).mono ?_
    rintro e w4 ⟨rfl, u4⟩
    have B4 := hide ((unhide B3).tr u4)
    obtain ⟨p4, q4, -⟩ := cells2 ((unhide B4).blk (unhide K1))
    clear N3 B3 u4
    generalize hsv : smallV X = V
    generalize hsb : smallB X = G
    have HSV := hide (And.intro hsv hsb)
    clear hsv hsb
    go_wp2_with fail
    refine (cnum_any _ b n f _ ⟨_, rfl, (unhide HV).1.up ((up_alloc _ _).tr (unhide B4))⟩ (unhide HV).2.2.1).mono ?_
    rintro e w5 ⟨a5, rfl, o5, u5⟩
    have N5 := hide o5.nm
    clear o5 p4 q4
    go_wp2_with fail
    refine (of_any (-2305843009213693952) _ (by decide) (by decide)).mono ?_
    rintro e w6 ⟨a6, b6, n6, f6, rfl, o6, u6, c6, l6, s6⟩
    have H6 := hide (And.intro s6 o6.nm)
    clear s6 o6
    go_wp2_with fail
    refine (cmpz_any _ _ b b6 n n6 f f6 _ ((unhide N5).up u6) (unhide H6).2 (unhide HV).2.1 c6.1.1).mono ?_
    rintro e w7 ⟨rfl, u7⟩
    rw [(unhide H6).1, ← (unhide HV).2.2.2.2.2.2]
    have B7 := hide (((unhide B4).tr u5).tr (u6.tr u7))
    obtain ⟨p7, q7, -⟩ := cells2 ((unhide B7).blk (unhide K1))
    clear N5 H6 c6 l6 u5 u6 u7 B4
    generalize hlow : cmpZ X (-2305843009213693952) = low
    go_wp2_with fail
    refine (cnum_any _ b n f _ ⟨_, rfl, (unhide HV).1.up ((up_alloc _ _).tr (unhide B7))⟩ (unhide HV).2.2.1).mono ?_
    rintro e w8 ⟨a8, rfl, o8, u8⟩
    have N8 := hide o8.nm
    clear o8 p7 q7
    go_wp2_with fail
    refine (of_any 2305843009213693952 _ (by decide) (by decide)).mono ?_
    rintro e w9 ⟨a9, b9, n9, f9, rfl, o9, u9, c9, l9, s9⟩
    have H9 := hide (And.intro s9 o9.nm)
    clear s9 o9
    go_wp2_with fail
    refine (cmpz_any _ _ b b9 n n9 f f9 _ ((unhide N8).up u9) (unhide H9).2 (unhide HV).2.1 c9.1.1).mono ?_
    rintro e wa ⟨rfl, ua⟩
    rw [(unhide H9).1, ← (unhide HV).2.2.2.2.2.2]
    have Ba := hide (((unhide B7).tr u8).tr (u9.tr ua))
    obtain ⟨pa, qa, -⟩ := cells2 ((unhide Ba).blk (unhide K1))
    clear N8 H9 c9 l9 u8 u9 ua B7
    generalize hhigh : cmpZ X 2305843009213693952 = high
    have M : (decide (0 ≤ low) = true ∧ decide (high < 0) = true ∧ V = X ∧ G = true ∧ Hid (-2305843009213693952 ≤ X ∧ X < 2305843009213693952)) ∨ (decide (0 ≤ low) = false ∧ V = 0 ∧ G = false) ∨ (decide (0 ≤ low) = true ∧ decide (high < 0) = false ∧ V = 0 ∧ G = false) := by
      rw [← hlow, ← hhigh, ← (unhide HSV).1, ← (unhide HSV).2]
      by_cases g1 : -2305843009213693952 ≤ X
      · by_cases g2 : X < 2305843009213693952
        · exact .inl ⟨decide_eq_true (cmpZ_ge.2 g1), decide_eq_true (cmpZ_neg0.2 g2), (small_in ⟨g1, g2⟩).1, (small_in ⟨g1, g2⟩).2, hide ⟨g1, g2⟩⟩
        · exact .inr (.inr ⟨decide_eq_true (cmpZ_ge.2 g1), decide_eq_false (fun h => g2 (cmpZ_neg0.1 h)), small_out (fun h => g2 h.2)⟩)
      · exact .inr (.inl ⟨decide_eq_false (fun h => g1 (cmpZ_ge.1 h)), small_out (fun h => g1 h.1)⟩)
    clear hlow hhigh HSV
    rcases M with ⟨m1, m2, rfl, rfl, m5⟩ | ⟨m1, rfl, rfl⟩ | ⟨m1, m2, rfl, rfl⟩
    · go_wp2_with fail
      clear m1 m2 d1
      refine wp_region_knd (by kernel_rfl) w ((up_alloc _ _).tr (unhide Ba)) [[], [0], [1], [2], [3, 2], [2, 4], [5], [6], [7, 6], [8], [9, 8], [8], [11, 8], [10, 12, 8], [13, 8], [8, 14, 6], [6, 15], [16], [17], [17, 18], [19]] [.val [] (fun _ g _ => g.v = .bool true), .val [] (fun _ g _ => g.v = .bool false), .val [] (fun _ g _ => g.v = .bool false), .val [] (fun _ g _ => g.v = undef), .val [] (fun _ g _ => g.v = undef), .val [] (fun _ g _ => g.v = .bool false), .val [] (fun _ g _ => g.v = .bool false), .val [] (fun _ g _ => g.v = .bool true), .val [] (fun _ g _ => g.v = .bool true), .val [] (fun _ g _ => g.v = .int .i64 V), .val [] (fun w g _ => NumIn V 2 w g.lo g.hi g.v), .val [] (fun _ g _ => g.v = .agg #[.bool b, .slice ao n cap]), .val [] (fun w g _ => CopIn b n f w g.lo g.hi g.v), .val [] (fun _ g _ => g.v = .int .i64 0), .val [] (fun _ g _ => g.v = .bool true), .val [] (fun _ g _ => g.v = .bool true), .val [] (fun _ g _ => g.v = .bool true), .val [] (fun _ g _ => g.v = .bool true), .val [] (fun _ g _ => g.v = .bool true), .val [] (fun _ g _ => g.v = .bool true), .val [] (fun _ g _ => g.v = .bool true)] (by kernel_rfl) (by kernel_rfl) rfl ⟨trivial, trivial, trivial, trivial, trivial, trivial, trivial, trivial, trivial, trivial, trivial, trivial, trivial, trivial, trivial, trivial, trivial, trivial, trivial, trivial, trivial, trivial⟩ ⟨fun _ _ _ _ _ h => h, fun _ _ _ _ _ h => h, fun _ _ _ _ _ h => h, fun _ _ _ _ _ h => h, fun _ _ _ _ _ h => h, fun _ _ _ _ _ h => h, fun _ _ _ _ _ h => h, fun _ _ _ _ _ h => h, fun _ _ _ _ _ h => h, fun _ _ _ _ _ h => h, fun _ _ _ _ hb h => h.keep hb, fun _ _ _ _ _ h => h, fun _ _ _ _ hb h => h.keep hb, fun _ _ _ _ _ h => h, fun _ _ _ _ _ h => h, fun _ _ _ _ _ h => h, fun _ _ _ _ _ h => h, fun _ _ _ _ _ h => h, fun _ _ _ _ _ h => h, fun _ _ _ _ _ h => h, fun _ _ _ _ _ h => h, trivial⟩ ⟨?_, ?_, ?_, ?_, ?_, ?_, ?_, ?_, ?_, ?_, ?_, ?_, ?_, ?_, ?_, ?_, ?_, ?_, ?_, ?_, ?_, trivial⟩ ?_
      · intro x w1 K hU hS hO hd hK
        clear hd
        refine Veil.mk ?_; simp only [kgoal, putsFrom, depsOf, List.getD_cons_zero, List.getD_cons_succ, List.contains_nil, List.contains_cons, Nat.zero_add, Nat.reduceAdd, Nat.reduceBEq, Bool.or_false, Bool.false_or, Bool.or_true, Bool.true_or, Bool.false_eq_true, ↓reduceIte, Act.put, List.setIfInBounds_toArray, List.set_cons_zero, List.set_cons_succ]
        go_simp
        exact hK _ _ (Up.refl _) rfl
      · intro x w1 K hU hS hO hd hK
        have c0 : (x 0).v = _ := kval (hd 0 (by decide)).1 rfl
        clear hd
        refine Veil.mk ?_; simp only [kgoal, putsFrom, depsOf, List.getD_cons_zero, List.getD_cons_succ, List.contains_nil, List.contains_cons, Nat.zero_add, Nat.reduceAdd, Nat.reduceBEq, Bool.or_false, Bool.false_or, Bool.or_true, Bool.true_or, Bool.false_eq_true, ↓reduceIte, Act.put, List.setIfInBounds_toArray, List.set_cons_zero, List.set_cons_succ]
        simp only [c0]
        go_simp
        exact hK _ _ (Up.refl _) rfl
      · intro x w1 K hU hS hO hd hK
        have c1 : (x 1).v = _ := kval (hd 1 (by decide)).1 rfl
        clear hd
        refine Veil.mk ?_; simp only [kgoal, putsFrom, depsOf, List.getD_cons_zero, List.getD_cons_succ, List.contains_nil, List.contains_cons, Nat.zero_add, Nat.reduceAdd, Nat.reduceBEq, Bool.or_false, Bool.false_or, Bool.or_true, Bool.true_or, Bool.false_eq_true, ↓reduceIte, Act.put, List.setIfInBounds_toArray, List.set_cons_zero, List.set_cons_succ]
        simp only [c1]
        go_simp
        exact hK _ _ (Up.refl _) rfl
      · intro x w1 K hU hS hO hd hK
        have c2 : (x 2).v = _ := kval (hd 2 (by decide)).1 rfl
        clear hd
        refine Veil.mk ?_; simp only [kgoal, putsFrom, depsOf, List.getD_cons_zero, List.getD_cons_succ, List.contains_nil, List.contains_cons, Nat.zero_add, Nat.reduceAdd, Nat.reduceBEq, Bool.or_false, Bool.false_or, Bool.or_true, Bool.true_or, Bool.false_eq_true, ↓reduceIte, Act.put, List.setIfInBounds_toArray, List.set_cons_zero, List.set_cons_succ]
        simp only [c2]
        rw [if_neg (by intro h; cases h)]
        exact hK _ _ (Up.refl _) rfl
      · intro x w1 K hU hS hO hd hK
        have c3 : (x 3).v = _ := kval (hd 3 (by decide)).1 rfl
        have c2 : (x 2).v = _ := kval (hd 2 (by decide)).1 rfl
        clear hd
        refine Veil.mk ?_; simp only [kgoal, putsFrom, depsOf, List.getD_cons_zero, List.getD_cons_succ, List.contains_nil, List.contains_cons, Nat.zero_add, Nat.reduceAdd, Nat.reduceBEq, Bool.or_false, Bool.false_or, Bool.or_true, Bool.true_or, Bool.false_eq_true, ↓reduceIte, Act.put, List.setIfInBounds_toArray, List.set_cons_zero, List.set_cons_succ]
        simp only [c3, c2]
        rw [if_neg (by intro h; cases h)]
        exact hK _ _ (Up.refl _) rfl
      · intro x w1 K hU hS hO hd hK
        have c2 : (x 2).v = _ := kval (hd 2 (by decide)).1 rfl
        have c4 : (x 4).v = _ := kval (hd 4 (by decide)).1 rfl
        clear hd
        refine Veil.mk ?_; simp only [kgoal, putsFrom, depsOf, List.getD_cons_zero, List.getD_cons_succ, List.contains_nil, List.contains_cons, Nat.zero_add, Nat.reduceAdd, Nat.reduceBEq, Bool.or_false, Bool.false_or, Bool.or_true, Bool.true_or, Bool.false_eq_true, ↓reduceIte, Act.put, List.setIfInBounds_toArray, List.set_cons_zero, List.set_cons_succ]
        simp only [c2, c4]
        go_simp
        exact hK _ _ (Up.refl _) rfl
      · intro x w1 K hU hS hO hd hK
        have c5 : (x 5).v = _ := kval (hd 5 (by decide)).1 rfl
        clear hd
        refine Veil.mk ?_; simp only [kgoal, putsFrom, depsOf, List.getD_cons_zero, List.getD_cons_succ, List.contains_nil, List.contains_cons, Nat.zero_add, Nat.reduceAdd, Nat.reduceBEq, Bool.or_false, Bool.false_or, Bool.or_true, Bool.true_or, Bool.false_eq_true, ↓reduceIte, Act.put, List.setIfInBounds_toArray, List.set_cons_zero, List.set_cons_succ]
        simp only [c5]
        go_simp
        exact hK _ _ (Up.refl _) rfl
      · intro x w1 K hU hS hO hd hK
        have c6 : (x 6).v = _ := kval (hd 6 (by decide)).1 rfl
        clear hd
        refine Veil.mk ?_; simp only [kgoal, putsFrom, depsOf, List.getD_cons_zero, List.getD_cons_succ, List.contains_nil, List.contains_cons, Nat.zero_add, Nat.reduceAdd, Nat.reduceBEq, Bool.or_false, Bool.false_or, Bool.or_true, Bool.true_or, Bool.false_eq_true, ↓reduceIte, Act.put, List.setIfInBounds_toArray, List.set_cons_zero, List.set_cons_succ]
        simp only [c6]
        rw [if_pos (by rfl)]
        go_simp
        exact hK _ _ (Up.refl _) rfl
      · intro x w1 K hU hS hO hd hK
        have c7 : (x 7).v = _ := kval (hd 7 (by decide)).1 rfl
        have c6 : (x 6).v = _ := kval (hd 6 (by decide)).1 rfl
        clear hd
        refine Veil.mk ?_; simp only [kgoal, putsFrom, depsOf, List.getD_cons_zero, List.getD_cons_succ, List.contains_nil, List.contains_cons, Nat.zero_add, Nat.reduceAdd, Nat.reduceBEq, Bool.or_false, Bool.false_or, Bool.or_true, Bool.true_or, Bool.false_eq_true, ↓reduceIte, Act.put, List.setIfInBounds_toArray, List.set_cons_zero, List.set_cons_succ]
        simp only [c7, c6]
        rw [if_pos (by rfl)]
        go_simp
        exact hK _ _ (Up.refl _) rfl
      · intro x w1 K hU hS hO hd hK
        have c8 : (x 8).v = _ := kval (hd 8 (by decide)).1 rfl
        clear hd
        refine Veil.mk ?_; simp only [kgoal, putsFrom, depsOf, List.getD_cons_zero, List.getD_cons_succ, List.contains_nil, List.contains_cons, Nat.zero_add, Nat.reduceAdd, Nat.reduceBEq, Bool.or_false, Bool.false_or, Bool.or_true, Bool.true_or, Bool.false_eq_true, ↓reduceIte, Act.put, List.setIfInBounds_toArray, List.set_cons_zero, List.set_cons_succ]
        simp only [c8]
        rw [if_pos (by rfl)]
        go_simp
        exact hK _ _ (Up.refl _) rfl
      · intro x w1 K hU hS hO hd hK
        have c8 : (x 8).v = _ := kval (hd 8 (by decide)).1 rfl
        have c9 : (x 9).v = _ := kval (hd 9 (by decide)).1 rfl
        clear hd
        refine Veil.mk ?_; simp only [kgoal, putsFrom, depsOf, List.getD_cons_zero, List.getD_cons_succ, List.contains_nil, List.contains_cons, Nat.zero_add, Nat.reduceAdd, Nat.reduceBEq, Bool.or_false, Bool.false_or, Bool.or_true, Bool.true_or, Bool.false_eq_true, ↓reduceIte, Act.put, List.setIfInBounds_toArray, List.set_cons_zero, List.set_cons_succ]
        simp only [c8, c9]
        rw [if_pos (by rfl)]
        go_simp
        refine (of_any V _ (by have := unhide m5; omega) (by have := unhide m5; omega)).mono ?_
        rintro e wc ⟨ac, bc, nc, fc, rfl, oc, uc, cc, lc, sc⟩
        exact hK _ _ uc ⟨bc, nc, fc, CopIn.of oc, cc, lc, sc⟩
      · intro x w1 K hU hS hO hd hK
        have c8 : (x 8).v = _ := kval (hd 8 (by decide)).1 rfl
        obtain ⟨c0, c1, -⟩ := cells2 (Up.blk ((up_drew _).tr (hS.upb rfl)) ((unhide Ba).blk (unhide K1)))
        clear hd
        refine Veil.mk ?_; simp only [kgoal, putsFrom, depsOf, List.getD_cons_zero, List.getD_cons_succ, List.contains_nil, List.contains_cons, Nat.zero_add, Nat.reduceAdd, Nat.reduceBEq, Bool.or_false, Bool.false_or, Bool.or_true, Bool.true_or, Bool.false_eq_true, ↓reduceIte, Act.put, List.setIfInBounds_toArray, List.set_cons_zero, List.set_cons_succ]
        simp only [c8]
        rw [if_pos (by rfl)]
        go_simp
        exact hK _ _ (Up.refl _) rfl
      · intro x w1 K hU hS hO hd hK
        have c8 : (x 8).v = _ := kval (hd 8 (by decide)).1 rfl
        have c11 : (x 11).v = _ := kval (hd 11 (by decide)).1 rfl
        clear hd
        refine Veil.mk ?_; simp only [kgoal, putsFrom, depsOf, List.getD_cons_zero, List.getD_cons_succ, List.contains_nil, List.contains_cons, Nat.zero_add, Nat.reduceAdd, Nat.reduceBEq, Bool.or_false, Bool.false_or, Bool.or_true, Bool.true_or, Bool.false_eq_true, ↓reduceIte, Act.put, List.setIfInBounds_toArray, List.set_cons_zero, List.set_cons_succ]
        simp only [c8, c11]
        rw [if_pos (by rfl)]
        go_simp
        refine (cnum_any _ b n f _ ⟨_, rfl, (unhide HV).1.up hU⟩ (unhide HV).2.2.1).mono ?_
        rintro e wd ⟨ad, rfl, od, ud⟩
        exact hK _ _ ud (CopIn.of od)
      · intro x w1 K hU hS hO hd hK
        have c8 : (x 8).v = _ := kval (hd 8 (by decide)).1 rfl
        have n10 : NumIn V 2 w1 (x 10).lo (x 10).hi (x 10).v := kval (hd 10 (by decide)).1 rfl
        have n12 : CopIn b n f w1 (x 12).lo (x 12).hi (x 12).v := kval (hd 12 (by decide)).1 rfl
        obtain ⟨bc, nc, fc, cp, cc, lc, sc⟩ := n10
        clear hd
        refine Veil.mk ?_; simp only [kgoal, putsFrom, depsOf, List.getD_cons_zero, List.getD_cons_succ, List.contains_nil, List.contains_cons, Nat.zero_add, Nat.reduceAdd, Nat.reduceBEq, Bool.or_false, Bool.false_or, Bool.or_true, Bool.true_or, Bool.false_eq_true, ↓reduceIte, Act.put, List.setIfInBounds_toArray, List.set_cons_zero, List.set_cons_succ]
        simp only [c8]
        rw [if_pos (by rfl)]
        go_simp
        refine (cmpz_any _ _ bc b nc n fc f _ cp.nm n12.nm cc.1.1 (unhide HV).2.1).mono ?_
        rintro e we ⟨rfl, ue⟩
        rw [sc, ← (unhide HV).2.2.2.2.2.2, cmpZ_self]
        exact hK _ _ ue rfl
      · intro x w1 K hU hS hO hd hK
        have c13 : (x 13).v = _ := kval (hd 13 (by decide)).1 rfl
        have c8 : (x 8).v = _ := kval (hd 8 (by decide)).1 rfl
        clear hd
        refine Veil.mk ?_; simp only [kgoal, putsFrom, depsOf, List.getD_cons_zero, List.getD_cons_succ, List.contains_nil, List.contains_cons, Nat.zero_add, Nat.reduceAdd, Nat.reduceBEq, Bool.or_false, Bool.false_or, Bool.or_true, Bool.true_or, Bool.false_eq_true, ↓reduceIte, Act.put, List.setIfInBounds_toArray, List.set_cons_zero, List.set_cons_succ]
        simp only [c13, c8]
        rw [if_pos (by rfl)]
        go_simp
        exact hK _ _ (Up.refl _) rfl
      · intro x w1 K hU hS hO hd hK
        have c8 : (x 8).v = _ := kval (hd 8 (by decide)).1 rfl
        have c14 : (x 14).v = _ := kval (hd 14 (by decide)).1 rfl
        have c6 : (x 6).v = _ := kval (hd 6 (by decide)).1 rfl
        clear hd
        refine Veil.mk ?_; simp only [kgoal, putsFrom, depsOf, List.getD_cons_zero, List.getD_cons_succ, List.contains_nil, List.contains_cons, Nat.zero_add, Nat.reduceAdd, Nat.reduceBEq, Bool.or_false, Bool.false_or, Bool.or_true, Bool.true_or, Bool.false_eq_true, ↓reduceIte, Act.put, List.setIfInBounds_toArray, List.set_cons_zero, List.set_cons_succ]
        simp only [c8, c14, c6]
        rw [if_pos (by rfl)]
        go_simp
        exact hK _ _ (Up.refl _) rfl
      · intro x w1 K hU hS hO hd hK
        have c6 : (x 6).v = _ := kval (hd 6 (by decide)).1 rfl
        have c15 : (x 15).v = _ := kval (hd 15 (by decide)).1 rfl
        clear hd
        refine Veil.mk ?_; simp only [kgoal, putsFrom, depsOf, List.getD_cons_zero, List.getD_cons_succ, List.contains_nil, List.contains_cons, Nat.zero_add, Nat.reduceAdd, Nat.reduceBEq, Bool.or_false, Bool.false_or, Bool.or_true, Bool.true_or, Bool.false_eq_true, ↓reduceIte, Act.put, List.setIfInBounds_toArray, List.set_cons_zero, List.set_cons_succ]
        simp only [c6, c15]
        go_simp
        exact hK _ _ (Up.refl _) rfl
      · intro x w1 K hU hS hO hd hK
        have c16 : (x 16).v = _ := kval (hd 16 (by decide)).1 rfl
        clear hd
        refine Veil.mk ?_; simp only [kgoal, putsFrom, depsOf, List.getD_cons_zero, List.getD_cons_succ, List.contains_nil, List.contains_cons, Nat.zero_add, Nat.reduceAdd, Nat.reduceBEq, Bool.or_false, Bool.false_or, Bool.or_true, Bool.true_or, Bool.false_eq_true, ↓reduceIte, Act.put, List.setIfInBounds_toArray, List.set_cons_zero, List.set_cons_succ]
        simp only [c16]
        go_simp
        exact hK _ _ (Up.refl _) rfl
      · intro x w1 K hU hS hO hd hK
        have c17 : (x 17).v = _ := kval (hd 17 (by decide)).1 rfl
        clear hd
        refine Veil.mk ?_; simp only [kgoal, putsFrom, depsOf, List.getD_cons_zero, List.getD_cons_succ, List.contains_nil, List.contains_cons, Nat.zero_add, Nat.reduceAdd, Nat.reduceBEq, Bool.or_false, Bool.false_or, Bool.or_true, Bool.true_or, Bool.false_eq_true, ↓reduceIte, Act.put, List.setIfInBounds_toArray, List.set_cons_zero, List.set_cons_succ]
        simp only [c17]
        rw [if_pos (by rfl)]
        go_simp
        refine (awake_any _ ((unhide HV).2.2.2.1.up hU)).mono ?_
        rintro e wb ⟨rfl, ub⟩
        exact hK _ _ ub rfl
      · intro x w1 K hU hS hO hd hK
        have c17 : (x 17).v = _ := kval (hd 17 (by decide)).1 rfl
        have c18 : (x 18).v = _ := kval (hd 18 (by decide)).1 rfl
        clear hd
        refine Veil.mk ?_; simp only [kgoal, putsFrom, depsOf, List.getD_cons_zero, List.getD_cons_succ, List.contains_nil, List.contains_cons, Nat.zero_add, Nat.reduceAdd, Nat.reduceBEq, Bool.or_false, Bool.false_or, Bool.or_true, Bool.true_or, Bool.false_eq_true, ↓reduceIte, Act.put, List.setIfInBounds_toArray, List.set_cons_zero, List.set_cons_succ]
        simp only [c17, c18]
        go_simp
        exact hK _ _ (Up.refl _) rfl
      · intro x w1 K hU hS hO hd hK
        have c19 : (x 19).v = _ := kval (hd 19 (by decide)).1 rfl
        clear hd
        refine Veil.mk ?_; simp only [kgoal, putsFrom, depsOf, List.getD_cons_zero, List.getD_cons_succ, List.contains_nil, List.contains_cons, Nat.zero_add, Nat.reduceAdd, Nat.reduceBEq, Bool.or_false, Bool.false_or, Bool.or_true, Bool.true_or, Bool.false_eq_true, ↓reduceIte, Act.put, List.setIfInBounds_toArray, List.set_cons_zero, List.set_cons_succ]
        simp only [c19]
        go_simp
        exact hK _ _ (Up.refl _) rfl
      · intro x w1 hU hS hR hlo hdis
        have c20 : (x 20).v = _ := kval (hR 20 (by decide)) rfl
        clear hR hlo hdis
        refine Veil.mk ?_; simp only [kgoal, putsFrom, depsOf, List.getD_cons_zero, List.getD_cons_succ, List.contains_nil, List.contains_cons, Nat.zero_add, Nat.reduceAdd, Nat.reduceBEq, Bool.or_false, Bool.false_or, Bool.or_true, Bool.true_or, Bool.false_eq_true, ↓reduceIte, Act.put, List.setIfInBounds_toArray, List.set_cons_zero, List.set_cons_succ]
        rw [c20]
        go_wp2_with fail
        go_ret
        exact ⟨rfl, hU⟩
    · go_wp2_with fail
      refine wp_region_knd (by kernel_rfl) w ((up_alloc _ _).tr (unhide Ba)) [[], [0], [1], [2], [3, 2], [2, 4], [5], [6], [7, 6], [8], [9, 8], [8], [11, 8], [10, 12, 8], [13, 8], [8, 14, 6], [6, 15], [16], [17], [17, 18], [19]] [.val [] (fun _ g _ => g.v = .bool false), .val [] (fun _ g _ => g.v = .bool true), .val [] (fun _ g _ => g.v = .bool true), .val [] (fun _ g _ => g.v = .int .i64 0), .val [] (fun _ g _ => g.v = .bool true), .val [] (fun _ g _ => g.v = .bool true), .val [] (fun _ g _ => g.v = .bool true), .val [] (fun _ g _ => g.v = undef), .val [] (fun _ g _ => g.v = undef), .val [] (fun _ g _ => g.v = undef), .val [] (fun _ g _ => g.v = undef), .val [] (fun _ g _ => g.v = undef), .val [] (fun _ g _ => g.v = undef), .val [] (fun _ g _ => g.v = undef), .val [] (fun _ g _ => g.v = undef), .val [] (fun _ g _ => g.v = undef), .val [] (fun _ g _ => g.v = .bool true), .val [] (fun _ g _ => g.v = .bool true), .val [] (fun _ g _ => g.v = .bool true), .val [] (fun _ g _ => g.v = .bool true), .val [] (fun _ g _ => g.v = .bool true)] (by kernel_rfl) (by kernel_rfl) rfl ⟨trivial, trivial, trivial, trivial, trivial, trivial, trivial, trivial, trivial, trivial, trivial, trivial, trivial, trivial, trivial, trivial, trivial, trivial, trivial, trivial, trivial, trivial⟩ ⟨fun _ _ _ _ _ h => h, fun _ _ _ _ _ h => h, fun _ _ _ _ _ h => h, fun _ _ _ _ _ h => h, fun _ _ _ _ _ h => h, fun _ _ _ _ _ h => h, fun _ _ _ _ _ h => h, fun _ _ _ _ _ h => h, fun _ _ _ _ _ h => h, fun _ _ _ _ _ h => h, fun _ _ _ _ _ h => h, fun _ _ _ _ _ h => h, fun _ _ _ _ _ h => h, fun _ _ _ _ _ h => h, fun _ _ _ _ _ h => h, fun _ _ _ _ _ h => h, fun _ _ _ _ _ h => h, fun _ _ _ _ _ h => h, fun _ _ _ _ _ h => h, fun _ _ _ _ _ h => h, fun _ _ _ _ _ h => h, trivial⟩ ⟨?_, ?_, ?_, ?_, ?_, ?_, ?_, ?_, ?_, ?_, ?_, ?_, ?_, ?_, ?_, ?_, ?_, ?_, ?_, ?_, ?_, trivial⟩ ?_
      · intro x w1 K hU hS hO hd hK
        clear hd
        refine Veil.mk ?_; simp only [kgoal, putsFrom, depsOf, List.getD_cons_zero, List.getD_cons_succ, List.contains_nil, List.contains_cons, Nat.zero_add, Nat.reduceAdd, Nat.reduceBEq, Bool.or_false, Bool.false_or, Bool.or_true, Bool.true_or, Bool.false_eq_true, ↓reduceIte, Act.put, List.setIfInBounds_toArray, List.set_cons_zero, List.set_cons_succ]
        go_simp
        exact hK _ _ (Up.refl _) rfl
      · intro x w1 K hU hS hO hd hK
        have c0 : (x 0).v = _ := kval (hd 0 (by decide)).1 rfl
        clear hd
        refine Veil.mk ?_; simp only [kgoal, putsFrom, depsOf, List.getD_cons_zero, List.getD_cons_succ, List.contains_nil, List.contains_cons, Nat.zero_add, Nat.reduceAdd, Nat.reduceBEq, Bool.or_false, Bool.false_or, Bool.or_true, Bool.true_or, Bool.false_eq_true, ↓reduceIte, Act.put, List.setIfInBounds_toArray, List.set_cons_zero, List.set_cons_succ]
        simp only [c0]
        go_simp
        exact hK _ _ (Up.refl _) rfl
      · intro x w1 K hU hS hO hd hK
        have c1 : (x 1).v = _ := kval (hd 1 (by decide)).1 rfl
        clear hd
        refine Veil.mk ?_; simp only [kgoal, putsFrom, depsOf, List.getD_cons_zero, List.getD_cons_succ, List.contains_nil, List.contains_cons, Nat.zero_add, Nat.reduceAdd, Nat.reduceBEq, Bool.or_false, Bool.false_or, Bool.or_true, Bool.true_or, Bool.false_eq_true, ↓reduceIte, Act.put, List.setIfInBounds_toArray, List.set_cons_zero, List.set_cons_succ]
        simp only [c1]
        go_simp
        exact hK _ _ (Up.refl _) rfl
      · intro x w1 K hU hS hO hd hK
        have c2 : (x 2).v = _ := kval (hd 2 (by decide)).1 rfl
        clear hd
        refine Veil.mk ?_; simp only [kgoal, putsFrom, depsOf, List.getD_cons_zero, List.getD_cons_succ, List.contains_nil, List.contains_cons, Nat.zero_add, Nat.reduceAdd, Nat.reduceBEq, Bool.or_false, Bool.false_or, Bool.or_true, Bool.true_or, Bool.false_eq_true, ↓reduceIte, Act.put, List.setIfInBounds_toArray, List.set_cons_zero, List.set_cons_succ]
        simp only [c2]
        rw [if_pos (by rfl)]
        go_simp
        exact hK _ _ (Up.refl _) rfl
      · intro x w1 K hU hS hO hd hK
        have c3 : (x 3).v = _ := kval (hd 3 (by decide)).1 rfl
        have c2 : (x 2).v = _ := kval (hd 2 (by decide)).1 rfl
        clear hd
        refine Veil.mk ?_; simp only [kgoal, putsFrom, depsOf, List.getD_cons_zero, List.getD_cons_succ, List.contains_nil, List.contains_cons, Nat.zero_add, Nat.reduceAdd, Nat.reduceBEq, Bool.or_false, Bool.false_or, Bool.or_true, Bool.true_or, Bool.false_eq_true, ↓reduceIte, Act.put, List.setIfInBounds_toArray, List.set_cons_zero, List.set_cons_succ]
        simp only [c3, c2]
        rw [if_pos (by rfl)]
        go_simp
        exact hK _ _ (Up.refl _) rfl
      · intro x w1 K hU hS hO hd hK
        have c2 : (x 2).v = _ := kval (hd 2 (by decide)).1 rfl
        have c4 : (x 4).v = _ := kval (hd 4 (by decide)).1 rfl
        clear hd
        refine Veil.mk ?_; simp only [kgoal, putsFrom, depsOf, List.getD_cons_zero, List.getD_cons_succ, List.contains_nil, List.contains_cons, Nat.zero_add, Nat.reduceAdd, Nat.reduceBEq, Bool.or_false, Bool.false_or, Bool.or_true, Bool.true_or, Bool.false_eq_true, ↓reduceIte, Act.put, List.setIfInBounds_toArray, List.set_cons_zero, List.set_cons_succ]
        simp only [c2, c4]
        go_simp
        exact hK _ _ (Up.refl _) rfl
      · intro x w1 K hU hS hO hd hK
        have c5 : (x 5).v = _ := kval (hd 5 (by decide)).1 rfl
        clear hd
        refine Veil.mk ?_; simp only [kgoal, putsFrom, depsOf, List.getD_cons_zero, List.getD_cons_succ, List.contains_nil, List.contains_cons, Nat.zero_add, Nat.reduceAdd, Nat.reduceBEq, Bool.or_false, Bool.false_or, Bool.or_true, Bool.true_or, Bool.false_eq_true, ↓reduceIte, Act.put, List.setIfInBounds_toArray, List.set_cons_zero, List.set_cons_succ]
        simp only [c5]
        go_simp
        exact hK _ _ (Up.refl _) rfl
      · intro x w1 K hU hS hO hd hK
        have c6 : (x 6).v = _ := kval (hd 6 (by decide)).1 rfl
        clear hd
        refine Veil.mk ?_; simp only [kgoal, putsFrom, depsOf, List.getD_cons_zero, List.getD_cons_succ, List.contains_nil, List.contains_cons, Nat.zero_add, Nat.reduceAdd, Nat.reduceBEq, Bool.or_false, Bool.false_or, Bool.or_true, Bool.true_or, Bool.false_eq_true, ↓reduceIte, Act.put, List.setIfInBounds_toArray, List.set_cons_zero, List.set_cons_succ]
        simp only [c6]
        rw [if_neg (by intro h; cases h)]
        exact hK _ _ (Up.refl _) rfl
      · intro x w1 K hU hS hO hd hK
        have c7 : (x 7).v = _ := kval (hd 7 (by decide)).1 rfl
        have c6 : (x 6).v = _ := kval (hd 6 (by decide)).1 rfl
        clear hd
        refine Veil.mk ?_; simp only [kgoal, putsFrom, depsOf, List.getD_cons_zero, List.getD_cons_succ, List.contains_nil, List.contains_cons, Nat.zero_add, Nat.reduceAdd, Nat.reduceBEq, Bool.or_false, Bool.false_or, Bool.or_true, Bool.true_or, Bool.false_eq_true, ↓reduceIte, Act.put, List.setIfInBounds_toArray, List.set_cons_zero, List.set_cons_succ]
        simp only [c7, c6]
        rw [if_neg (by intro h; cases h)]
        exact hK _ _ (Up.refl _) rfl
      · intro x w1 K hU hS hO hd hK
        have c8 : (x 8).v = _ := kval (hd 8 (by decide)).1 rfl
        clear hd
        refine Veil.mk ?_; simp only [kgoal, putsFrom, depsOf, List.getD_cons_zero, List.getD_cons_succ, List.contains_nil, List.contains_cons, Nat.zero_add, Nat.reduceAdd, Nat.reduceBEq, Bool.or_false, Bool.false_or, Bool.or_true, Bool.true_or, Bool.false_eq_true, ↓reduceIte, Act.put, List.setIfInBounds_toArray, List.set_cons_zero, List.set_cons_succ]
        simp only [c8]
        rw [if_neg (by intro h; cases h)]
        exact hK _ _ (Up.refl _) rfl
      · intro x w1 K hU hS hO hd hK
        have c9 : (x 9).v = _ := kval (hd 9 (by decide)).1 rfl
        have c8 : (x 8).v = _ := kval (hd 8 (by decide)).1 rfl
        clear hd
        refine Veil.mk ?_; simp only [kgoal, putsFrom, depsOf, List.getD_cons_zero, List.getD_cons_succ, List.contains_nil, List.contains_cons, Nat.zero_add, Nat.reduceAdd, Nat.reduceBEq, Bool.or_false, Bool.false_or, Bool.or_true, Bool.true_or, Bool.false_eq_true, ↓reduceIte, Act.put, List.setIfInBounds_toArray, List.set_cons_zero, List.set_cons_succ]
        simp only [c9, c8]
        rw [if_neg (by intro h; cases h)]
        exact hK _ _ (Up.refl _) rfl
      · intro x w1 K hU hS hO hd hK
        have c8 : (x 8).v = _ := kval (hd 8 (by decide)).1 rfl
        clear hd
        refine Veil.mk ?_; simp only [kgoal, putsFrom, depsOf, List.getD_cons_zero, List.getD_cons_succ, List.contains_nil, List.contains_cons, Nat.zero_add, Nat.reduceAdd, Nat.reduceBEq, Bool.or_false, Bool.false_or, Bool.or_true, Bool.true_or, Bool.false_eq_true, ↓reduceIte, Act.put, List.setIfInBounds_toArray, List.set_cons_zero, List.set_cons_succ]
        simp only [c8]
        rw [if_neg (by intro h; cases h)]
        exact hK _ _ (Up.refl _) rfl
      · intro x w1 K hU hS hO hd hK
        have c11 : (x 11).v = _ := kval (hd 11 (by decide)).1 rfl
        have c8 : (x 8).v = _ := kval (hd 8 (by decide)).1 rfl
        clear hd
        refine Veil.mk ?_; simp only [kgoal, putsFrom, depsOf, List.getD_cons_zero, List.getD_cons_succ, List.contains_nil, List.contains_cons, Nat.zero_add, Nat.reduceAdd, Nat.reduceBEq, Bool.or_false, Bool.false_or, Bool.or_true, Bool.true_or, Bool.false_eq_true, ↓reduceIte, Act.put, List.setIfInBounds_toArray, List.set_cons_zero, List.set_cons_succ]
        simp only [c11, c8]
        rw [if_neg (by intro h; cases h)]
        exact hK _ _ (Up.refl _) rfl
      · intro x w1 K hU hS hO hd hK
        have c10 : (x 10).v = _ := kval (hd 10 (by decide)).1 rfl
        have c12 : (x 12).v = _ := kval (hd 12 (by decide)).1 rfl
        have c8 : (x 8).v = _ := kval (hd 8 (by decide)).1 rfl
        clear hd
        refine Veil.mk ?_; simp only [kgoal, putsFrom, depsOf, List.getD_cons_zero, List.getD_cons_succ, List.contains_nil, List.contains_cons, Nat.zero_add, Nat.reduceAdd, Nat.reduceBEq, Bool.or_false, Bool.false_or, Bool.or_true, Bool.true_or, Bool.false_eq_true, ↓reduceIte, Act.put, List.setIfInBounds_toArray, List.set_cons_zero, List.set_cons_succ]
        simp only [c10, c12, c8]
        rw [if_neg (by intro h; cases h)]
        exact hK _ _ (Up.refl _) rfl
      · intro x w1 K hU hS hO hd hK
        have c13 : (x 13).v = _ := kval (hd 13 (by decide)).1 rfl
        have c8 : (x 8).v = _ := kval (hd 8 (by decide)).1 rfl
        clear hd
        refine Veil.mk ?_; simp only [kgoal, putsFrom, depsOf, List.getD_cons_zero, List.getD_cons_succ, List.contains_nil, List.contains_cons, Nat.zero_add, Nat.reduceAdd, Nat.reduceBEq, Bool.or_false, Bool.false_or, Bool.or_true, Bool.true_or, Bool.false_eq_true, ↓reduceIte, Act.put, List.setIfInBounds_toArray, List.set_cons_zero, List.set_cons_succ]
        simp only [c13, c8]
        rw [if_neg (by intro h; cases h)]
        exact hK _ _ (Up.refl _) rfl
      · intro x w1 K hU hS hO hd hK
        have c8 : (x 8).v = _ := kval (hd 8 (by decide)).1 rfl
        have c14 : (x 14).v = _ := kval (hd 14 (by decide)).1 rfl
        have c6 : (x 6).v = _ := kval (hd 6 (by decide)).1 rfl
        clear hd
        refine Veil.mk ?_; simp only [kgoal, putsFrom, depsOf, List.getD_cons_zero, List.getD_cons_succ, List.contains_nil, List.contains_cons, Nat.zero_add, Nat.reduceAdd, Nat.reduceBEq, Bool.or_false, Bool.false_or, Bool.or_true, Bool.true_or, Bool.false_eq_true, ↓reduceIte, Act.put, List.setIfInBounds_toArray, List.set_cons_zero, List.set_cons_succ]
        simp only [c8, c14, c6]
        rw [if_neg (by intro h; cases h)]
        exact hK _ _ (Up.refl _) rfl
      · intro x w1 K hU hS hO hd hK
        have c6 : (x 6).v = _ := kval (hd 6 (by decide)).1 rfl
        have c15 : (x 15).v = _ := kval (hd 15 (by decide)).1 rfl
        clear hd
        refine Veil.mk ?_; simp only [kgoal, putsFrom, depsOf, List.getD_cons_zero, List.getD_cons_succ, List.contains_nil, List.contains_cons, Nat.zero_add, Nat.reduceAdd, Nat.reduceBEq, Bool.or_false, Bool.false_or, Bool.or_true, Bool.true_or, Bool.false_eq_true, ↓reduceIte, Act.put, List.setIfInBounds_toArray, List.set_cons_zero, List.set_cons_succ]
        simp only [c6, c15]
        go_simp
        exact hK _ _ (Up.refl _) rfl
      · intro x w1 K hU hS hO hd hK
        have c16 : (x 16).v = _ := kval (hd 16 (by decide)).1 rfl
        clear hd
        refine Veil.mk ?_; simp only [kgoal, putsFrom, depsOf, List.getD_cons_zero, List.getD_cons_succ, List.contains_nil, List.contains_cons, Nat.zero_add, Nat.reduceAdd, Nat.reduceBEq, Bool.or_false, Bool.false_or, Bool.or_true, Bool.true_or, Bool.false_eq_true, ↓reduceIte, Act.put, List.setIfInBounds_toArray, List.set_cons_zero, List.set_cons_succ]
        simp only [c16]
        go_simp
        exact hK _ _ (Up.refl _) rfl
      · intro x w1 K hU hS hO hd hK
        have c17 : (x 17).v = _ := kval (hd 17 (by decide)).1 rfl
        clear hd
        refine Veil.mk ?_; simp only [kgoal, putsFrom, depsOf, List.getD_cons_zero, List.getD_cons_succ, List.contains_nil, List.contains_cons, Nat.zero_add, Nat.reduceAdd, Nat.reduceBEq, Bool.or_false, Bool.false_or, Bool.or_true, Bool.true_or, Bool.false_eq_true, ↓reduceIte, Act.put, List.setIfInBounds_toArray, List.set_cons_zero, List.set_cons_succ]
        simp only [c17]
        rw [if_pos (by rfl)]
        go_simp
        refine (awake_any _ ((unhide HV).2.2.2.1.up hU)).mono ?_
        rintro e wb ⟨rfl, ub⟩
        exact hK _ _ ub rfl
      · intro x w1 K hU hS hO hd hK
        have c17 : (x 17).v = _ := kval (hd 17 (by decide)).1 rfl
        have c18 : (x 18).v = _ := kval (hd 18 (by decide)).1 rfl
        clear hd
        refine Veil.mk ?_; simp only [kgoal, putsFrom, depsOf, List.getD_cons_zero, List.getD_cons_succ, List.contains_nil, List.contains_cons, Nat.zero_add, Nat.reduceAdd, Nat.reduceBEq, Bool.or_false, Bool.false_or, Bool.or_true, Bool.true_or, Bool.false_eq_true, ↓reduceIte, Act.put, List.setIfInBounds_toArray, List.set_cons_zero, List.set_cons_succ]
        simp only [c17, c18]
        go_simp
        exact hK _ _ (Up.refl _) rfl
      · intro x w1 K hU hS hO hd hK
        have c19 : (x 19).v = _ := kval (hd 19 (by decide)).1 rfl
        clear hd
        refine Veil.mk ?_; simp only [kgoal, putsFrom, depsOf, List.getD_cons_zero, List.getD_cons_succ, List.contains_nil, List.contains_cons, Nat.zero_add, Nat.reduceAdd, Nat.reduceBEq, Bool.or_false, Bool.false_or, Bool.or_true, Bool.true_or, Bool.false_eq_true, ↓reduceIte, Act.put, List.setIfInBounds_toArray, List.set_cons_zero, List.set_cons_succ]
        simp only [c19]
        go_simp
        exact hK _ _ (Up.refl _) rfl
      · intro x w1 hU hS hR hlo hdis
        have c20 : (x 20).v = _ := kval (hR 20 (by decide)) rfl
        clear hR hlo hdis
        refine Veil.mk ?_; simp only [kgoal, putsFrom, depsOf, List.getD_cons_zero, List.getD_cons_succ, List.contains_nil, List.contains_cons, Nat.zero_add, Nat.reduceAdd, Nat.reduceBEq, Bool.or_false, Bool.false_or, Bool.or_true, Bool.true_or, Bool.false_eq_true, ↓reduceIte, Act.put, List.setIfInBounds_toArray, List.set_cons_zero, List.set_cons_succ]
        rw [c20]
        go_wp2_with fail
        go_ret
        exact ⟨rfl, hU⟩
    · go_wp2_with fail
      refine wp_region_knd (by kernel_rfl) w ((up_alloc _ _).tr (unhide Ba)) [[], [0], [1], [2], [3, 2], [2, 4], [5], [6], [7, 6], [8], [9, 8], [8], [11, 8], [10, 12, 8], [13, 8], [8, 14, 6], [6, 15], [16], [17], [17, 18], [19]] [.val [] (fun _ g _ => g.v = .bool false), .val [] (fun _ g _ => g.v = .bool true), .val [] (fun _ g _ => g.v = .bool true), .val [] (fun _ g _ => g.v = .int .i64 0), .val [] (fun _ g _ => g.v = .bool true), .val [] (fun _ g _ => g.v = .bool true), .val [] (fun _ g _ => g.v = .bool true), .val [] (fun _ g _ => g.v = undef), .val [] (fun _ g _ => g.v = undef), .val [] (fun _ g _ => g.v = undef), .val [] (fun _ g _ => g.v = undef), .val [] (fun _ g _ => g.v = undef), .val [] (fun _ g _ => g.v = undef), .val [] (fun _ g _ => g.v = undef), .val [] (fun _ g _ => g.v = undef), .val [] (fun _ g _ => g.v = undef), .val [] (fun _ g _ => g.v = .bool true), .val [] (fun _ g _ => g.v = .bool true), .val [] (fun _ g _ => g.v = .bool true), .val [] (fun _ g _ => g.v = .bool true), .val [] (fun _ g _ => g.v = .bool true)] (by kernel_rfl) (by kernel_rfl) rfl ⟨trivial, trivial, trivial, trivial, trivial, trivial, trivial, trivial, trivial, trivial, trivial, trivial, trivial, trivial, trivial, trivial, trivial, trivial, trivial, trivial, trivial, trivial⟩ ⟨fun _ _ _ _ _ h => h, fun _ _ _ _ _ h => h, fun _ _ _ _ _ h => h, fun _ _ _ _ _ h => h, fun _ _ _ _ _ h => h, fun _ _ _ _ _ h => h, fun _ _ _ _ _ h => h, fun _ _ _ _ _ h => h, fun _ _ _ _ _ h => h, fun _ _ _ _ _ h => h, fun _ _ _ _ _ h => h, fun _ _ _ _ _ h => h, fun _ _ _ _ _ h => h, fun _ _ _ _ _ h => h, fun _ _ _ _ _ h => h, fun _ _ _ _ _ h => h, fun _ _ _ _ _ h => h, fun _ _ _ _ _ h => h, fun _ _ _ _ _ h => h, fun _ _ _ _ _ h => h, fun _ _ _ _ _ h => h, trivial⟩ ⟨?_, ?_, ?_, ?_, ?_, ?_, ?_, ?_, ?_, ?_, ?_, ?_, ?_, ?_, ?_, ?_, ?_, ?_, ?_, ?_, ?_, trivial⟩ ?_
      · intro x w1 K hU hS hO hd hK
        clear hd
        refine Veil.mk ?_; simp only [kgoal, putsFrom, depsOf, List.getD_cons_zero, List.getD_cons_succ, List.contains_nil, List.contains_cons, Nat.zero_add, Nat.reduceAdd, Nat.reduceBEq, Bool.or_false, Bool.false_or, Bool.or_true, Bool.true_or, Bool.false_eq_true, ↓reduceIte, Act.put, List.setIfInBounds_toArray, List.set_cons_zero, List.set_cons_succ]
        go_simp
        exact hK _ _ (Up.refl _) rfl
      · intro x w1 K hU hS hO hd hK
        have c0 : (x 0).v = _ := kval (hd 0 (by decide)).1 rfl
        clear hd
        refine Veil.mk ?_; simp only [kgoal, putsFrom, depsOf, List.getD_cons_zero, List.getD_cons_succ, List.contains_nil, List.contains_cons, Nat.zero_add, Nat.reduceAdd, Nat.reduceBEq, Bool.or_false, Bool.false_or, Bool.or_true, Bool.true_or, Bool.false_eq_true, ↓reduceIte, Act.put, List.setIfInBounds_toArray, List.set_cons_zero, List.set_cons_succ]
        simp only [c0]
        go_simp
        exact hK _ _ (Up.refl _) rfl
      · intro x w1 K hU hS hO hd hK
        have c1 : (x 1).v = _ := kval (hd 1 (by decide)).1 rfl
        clear hd
        refine Veil.mk ?_; simp only [kgoal, putsFrom, depsOf, List.getD_cons_zero, List.getD_cons_succ, List.contains_nil, List.contains_cons, Nat.zero_add, Nat.reduceAdd, Nat.reduceBEq, Bool.or_false, Bool.false_or, Bool.or_true, Bool.true_or, Bool.false_eq_true, ↓reduceIte, Act.put, List.setIfInBounds_toArray, List.set_cons_zero, List.set_cons_succ]
        simp only [c1]
        go_simp
        exact hK _ _ (Up.refl _) rfl
      · intro x w1 K hU hS hO hd hK
        have c2 : (x 2).v = _ := kval (hd 2 (by decide)).1 rfl
        clear hd
        refine Veil.mk ?_; simp only [kgoal, putsFrom, depsOf, List.getD_cons_zero, List.getD_cons_succ, List.contains_nil, List.contains_cons, Nat.zero_add, Nat.reduceAdd, Nat.reduceBEq, Bool.or_false, Bool.false_or, Bool.or_true, Bool.true_or, Bool.false_eq_true, ↓reduceIte, Act.put, List.setIfInBounds_toArray, List.set_cons_zero, List.set_cons_succ]
        simp only [c2]
        rw [if_pos (by rfl)]
        go_simp
        exact hK _ _ (Up.refl _) rfl
      · intro x w1 K hU hS hO hd hK
        have c3 : (x 3).v = _ := kval (hd 3 (by decide)).1 rfl
        have c2 : (x 2).v = _ := kval (hd 2 (by decide)).1 rfl
        clear hd
        refine Veil.mk ?_; simp only [kgoal, putsFrom, depsOf, List.getD_cons_zero, List.getD_cons_succ, List.contains_nil, List.contains_cons, Nat.zero_add, Nat.reduceAdd, Nat.reduceBEq, Bool.or_false, Bool.false_or, Bool.or_true, Bool.true_or, Bool.false_eq_true, ↓reduceIte, Act.put, List.setIfInBounds_toArray, List.set_cons_zero, List.set_cons_succ]
        simp only [c3, c2]
        rw [if_pos (by rfl)]
        go_simp
        exact hK _ _ (Up.refl _) rfl
      · intro x w1 K hU hS hO hd hK
        have c2 : (x 2).v = _ := kval (hd 2 (by decide)).1 rfl
        have c4 : (x 4).v = _ := kval (hd 4 (by decide)).1 rfl
        clear hd
        refine Veil.mk ?_; simp only [kgoal, putsFrom, depsOf, List.getD_cons_zero, List.getD_cons_succ, List.contains_nil, List.contains_cons, Nat.zero_add, Nat.reduceAdd, Nat.reduceBEq, Bool.or_false, Bool.false_or, Bool.or_true, Bool.true_or, Bool.false_eq_true, ↓reduceIte, Act.put, List.setIfInBounds_toArray, List.set_cons_zero, List.set_cons_succ]
        simp only [c2, c4]
        go_simp
        exact hK _ _ (Up.refl _) rfl
      · intro x w1 K hU hS hO hd hK
        have c5 : (x 5).v = _ := kval (hd 5 (by decide)).1 rfl
        clear hd
        refine Veil.mk ?_; simp only [kgoal, putsFrom, depsOf, List.getD_cons_zero, List.getD_cons_succ, List.contains_nil, List.contains_cons, Nat.zero_add, Nat.reduceAdd, Nat.reduceBEq, Bool.or_false, Bool.false_or, Bool.or_true, Bool.true_or, Bool.false_eq_true, ↓reduceIte, Act.put, List.setIfInBounds_toArray, List.set_cons_zero, List.set_cons_succ]
        simp only [c5]
        go_simp
        exact hK _ _ (Up.refl _) rfl
      · intro x w1 K hU hS hO hd hK
        have c6 : (x 6).v = _ := kval (hd 6 (by decide)).1 rfl
        clear hd
        refine Veil.mk ?_; simp only [kgoal, putsFrom, depsOf, List.getD_cons_zero, List.getD_cons_succ, List.contains_nil, List.contains_cons, Nat.zero_add, Nat.reduceAdd, Nat.reduceBEq, Bool.or_false, Bool.false_or, Bool.or_true, Bool.true_or, Bool.false_eq_true, ↓reduceIte, Act.put, List.setIfInBounds_toArray, List.set_cons_zero, List.set_cons_succ]
        simp only [c6]
        rw [if_neg (by intro h; cases h)]
        exact hK _ _ (Up.refl _) rfl
      · intro x w1 K hU hS hO hd hK
        have c7 : (x 7).v = _ := kval (hd 7 (by decide)).1 rfl
        have c6 : (x 6).v = _ := kval (hd 6 (by decide)).1 rfl
        clear hd
        refine Veil.mk ?_; simp only [kgoal, putsFrom, depsOf, List.getD_cons_zero, List.getD_cons_succ, List.contains_nil, List.contains_cons, Nat.zero_add, Nat.reduceAdd, Nat.reduceBEq, Bool.or_false, Bool.false_or, Bool.or_true, Bool.true_or, Bool.false_eq_true, ↓reduceIte, Act.put, List.setIfInBounds_toArray, List.set_cons_zero, List.set_cons_succ]
        simp only [c7, c6]
        rw [if_neg (by intro h; cases h)]
        exact hK _ _ (Up.refl _) rfl
      · intro x w1 K hU hS hO hd hK
        have c8 : (x 8).v = _ := kval (hd 8 (by decide)).1 rfl
        clear hd
        refine Veil.mk ?_; simp only [kgoal, putsFrom, depsOf, List.getD_cons_zero, List.getD_cons_succ, List.contains_nil, List.contains_cons, Nat.zero_add, Nat.reduceAdd, Nat.reduceBEq, Bool.or_false, Bool.false_or, Bool.or_true, Bool.true_or, Bool.false_eq_true, ↓reduceIte, Act.put, List.setIfInBounds_toArray, List.set_cons_zero, List.set_cons_succ]
        simp only [c8]
        rw [if_neg (by intro h; cases h)]
        exact hK _ _ (Up.refl _) rfl
      · intro x w1 K hU hS hO hd hK
        have c9 : (x 9).v = _ := kval (hd 9 (by decide)).1 rfl
        have c8 : (x 8).v = _ := kval (hd 8 (by decide)).1 rfl
        clear hd
        refine Veil.mk ?_; simp only [kgoal, putsFrom, depsOf, List.getD_cons_zero, List.getD_cons_succ, List.contains_nil, List.contains_cons, Nat.zero_add, Nat.reduceAdd, Nat.reduceBEq, Bool.or_false, Bool.false_or, Bool.or_true, Bool.true_or, Bool.false_eq_true, ↓reduceIte, Act.put, List.setIfInBounds_toArray, List.set_cons_zero, List.set_cons_succ]
        simp only [c9, c8]
        rw [if_neg (by intro h; cases h)]
        exact hK _ _ (Up.refl _) rfl
      · intro x w1 K hU hS hO hd hK
        have c8 : (x 8).v = _ := kval (hd 8 (by decide)).1 rfl
        clear hd
        refine Veil.mk ?_; simp only [kgoal, putsFrom, depsOf, List.getD_cons_zero, List.getD_cons_succ, List.contains_nil, List.contains_cons, Nat.zero_add, Nat.reduceAdd, Nat.reduceBEq, Bool.or_false, Bool.false_or, Bool.or_true, Bool.true_or, Bool.false_eq_true, ↓reduceIte, Act.put, List.setIfInBounds_toArray, List.set_cons_zero, List.set_cons_succ]
        simp only [c8]
        rw [if_neg (by intro h; cases h)]
        exact hK _ _ (Up.refl _) rfl
      · intro x w1 K hU hS hO hd hK
        have c11 : (x 11).v = _ := kval (hd 11 (by decide)).1 rfl
        have c8 : (x 8).v = _ := kval (hd 8 (by decide)).1 rfl
        clear hd
        refine Veil.mk ?_; simp only [kgoal, putsFrom, depsOf, List.getD_cons_zero, List.getD_cons_succ, List.contains_nil, List.contains_cons, Nat.zero_add, Nat.reduceAdd, Nat.reduceBEq, Bool.or_false, Bool.false_or, Bool.or_true, Bool.true_or, Bool.false_eq_true, ↓reduceIte, Act.put, List.setIfInBounds_toArray, List.set_cons_zero, List.set_cons_succ]
        simp only [c11, c8]
        rw [if_neg (by intro h; cases h)]
        exact hK _ _ (Up.refl _) rfl
      · intro x w1 K hU hS hO hd hK
        have c10 : (x 10).v = _ := kval (hd 10 (by decide)).1 rfl
        have c12 : (x 12).v = _ := kval (hd 12 (by decide)).1 rfl
        have c8 : (x 8).v = _ := kval (hd 8 (by decide)).1 rfl
        clear hd
        refine Veil.mk ?_; simp only [kgoal, putsFrom, depsOf, List.getD_cons_zero, List.getD_cons_succ, List.contains_nil, List.contains_cons, Nat.zero_add, Nat.reduceAdd, Nat.reduceBEq, Bool.or_false, Bool.false_or, Bool.or_true, Bool.true_or, Bool.false_eq_true, ↓reduceIte, Act.put, List.setIfInBounds_toArray, List.set_cons_zero, List.set_cons_succ]
        simp only [c10, c12, c8]
        rw [if_neg (by intro h; cases h)]
        exact hK _ _ (Up.refl _) rfl
      · intro x w1 K hU hS hO hd hK
        have c13 : (x 13).v = _ := kval (hd 13 (by decide)).1 rfl
        have c8 : (x 8).v = _ := kval (hd 8 (by decide)).1 rfl
        clear hd
        refine Veil.mk ?_; simp only [kgoal, putsFrom, depsOf, List.getD_cons_zero, List.getD_cons_succ, List.contains_nil, List.contains_cons, Nat.zero_add, Nat.reduceAdd, Nat.reduceBEq, Bool.or_false, Bool.false_or, Bool.or_true, Bool.true_or, Bool.false_eq_true, ↓reduceIte, Act.put, List.setIfInBounds_toArray, List.set_cons_zero, List.set_cons_succ]
        simp only [c13, c8]
        rw [if_neg (by intro h; cases h)]
        exact hK _ _ (Up.refl _) rfl
      · intro x w1 K hU hS hO hd hK
        have c8 : (x 8).v = _ := kval (hd 8 (by decide)).1 rfl
        have c14 : (x 14).v = _ := kval (hd 14 (by decide)).1 rfl
        have c6 : (x 6).v = _ := kval (hd 6 (by decide)).1 rfl
        clear hd
        refine Veil.mk ?_; simp only [kgoal, putsFrom, depsOf, List.getD_cons_zero, List.getD_cons_succ, List.contains_nil, List.contains_cons, Nat.zero_add, Nat.reduceAdd, Nat.reduceBEq, Bool.or_false, Bool.false_or, Bool.or_true, Bool.true_or, Bool.false_eq_true, ↓reduceIte, Act.put, List.setIfInBounds_toArray, List.set_cons_zero, List.set_cons_succ]
        simp only [c8, c14, c6]
        rw [if_neg (by intro h; cases h)]
        exact hK _ _ (Up.refl _) rfl
      · intro x w1 K hU hS hO hd hK
        have c6 : (x 6).v = _ := kval (hd 6 (by decide)).1 rfl
        have c15 : (x 15).v = _ := kval (hd 15 (by decide)).1 rfl
        clear hd
        refine Veil.mk ?_; simp only [kgoal, putsFrom, depsOf, List.getD_cons_zero, List.getD_cons_succ, List.contains_nil, List.contains_cons, Nat.zero_add, Nat.reduceAdd, Nat.reduceBEq, Bool.or_false, Bool.false_or, Bool.or_true, Bool.true_or, Bool.false_eq_true, ↓reduceIte, Act.put, List.setIfInBounds_toArray, List.set_cons_zero, List.set_cons_succ]
        simp only [c6, c15]
        go_simp
        exact hK _ _ (Up.refl _) rfl
      · intro x w1 K hU hS hO hd hK
        have c16 : (x 16).v = _ := kval (hd 16 (by decide)).1 rfl
        clear hd
        refine Veil.mk ?_; simp only [kgoal, putsFrom, depsOf, List.getD_cons_zero, List.getD_cons_succ, List.contains_nil, List.contains_cons, Nat.zero_add, Nat.reduceAdd, Nat.reduceBEq, Bool.or_false, Bool.false_or, Bool.or_true, Bool.true_or, Bool.false_eq_true, ↓reduceIte, Act.put, List.setIfInBounds_toArray, List.set_cons_zero, List.set_cons_succ]
        simp only [c16]
        go_simp
        exact hK _ _ (Up.refl _) rfl
      · intro x w1 K hU hS hO hd hK
        have c17 : (x 17).v = _ := kval (hd 17 (by decide)).1 rfl
        clear hd
        refine Veil.mk ?_; simp only [kgoal, putsFrom, depsOf, List.getD_cons_zero, List.getD_cons_succ, List.contains_nil, List.contains_cons, Nat.zero_add, Nat.reduceAdd, Nat.reduceBEq, Bool.or_false, Bool.false_or, Bool.or_true, Bool.true_or, Bool.false_eq_true, ↓reduceIte, Act.put, List.setIfInBounds_toArray, List.set_cons_zero, List.set_cons_succ]
        simp only [c17]
        rw [if_pos (by rfl)]
        go_simp
        refine (awake_any _ ((unhide HV).2.2.2.1.up hU)).mono ?_
        rintro e wb ⟨rfl, ub⟩
        exact hK _ _ ub rfl
      · intro x w1 K hU hS hO hd hK
        have c17 : (x 17).v = _ := kval (hd 17 (by decide)).1 rfl
        have c18 : (x 18).v = _ := kval (hd 18 (by decide)).1 rfl
        clear hd
        refine Veil.mk ?_; simp only [kgoal, putsFrom, depsOf, List.getD_cons_zero, List.getD_cons_succ, List.contains_nil, List.contains_cons, Nat.zero_add, Nat.reduceAdd, Nat.reduceBEq, Bool.or_false, Bool.false_or, Bool.or_true, Bool.true_or, Bool.false_eq_true, ↓reduceIte, Act.put, List.setIfInBounds_toArray, List.set_cons_zero, List.set_cons_succ]
        simp only [c17, c18]
        go_simp
        exact hK _ _ (Up.refl _) rfl
      · intro x w1 K hU hS hO hd hK
        have c19 : (x 19).v = _ := kval (hd 19 (by decide)).1 rfl
        clear hd
        refine Veil.mk ?_; simp only [kgoal, putsFrom, depsOf, List.getD_cons_zero, List.getD_cons_succ, List.contains_nil, List.contains_cons, Nat.zero_add, Nat.reduceAdd, Nat.reduceBEq, Bool.or_false, Bool.false_or, Bool.or_true, Bool.true_or, Bool.false_eq_true, ↓reduceIte, Act.put, List.setIfInBounds_toArray, List.set_cons_zero, List.set_cons_succ]
        simp only [c19]
        go_simp
        exact hK _ _ (Up.refl _) rfl
      · intro x w1 hU hS hR hlo hdis
        have c20 : (x 20).v = _ := kval (hR 20 (by decide)) rfl
        clear hR hlo hdis
        refine Veil.mk ?_; simp only [kgoal, putsFrom, depsOf, List.getD_cons_zero, List.getD_cons_succ, List.contains_nil, List.contains_cons, Nat.zero_add, Nat.reduceAdd, Nat.reduceBEq, Bool.or_false, Bool.false_or, Bool.or_true, Bool.true_or, Bool.false_eq_true, ↓reduceIte, Act.put, List.setIfInBounds_toArray, List.set_cons_zero, List.set_cons_succ]
        rw [c20]
        go_wp2_with fail
        go_ret
        exact ⟨rfl, hU⟩

end Go.Proofs.YtkmpobmpencefaaDoor
