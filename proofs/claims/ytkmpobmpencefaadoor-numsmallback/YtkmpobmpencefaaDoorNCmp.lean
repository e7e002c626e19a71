/-
  What is proved here: num.Cmp tells which of two numbers is less.
-/
import Derived.Test.YtkmpobmpencefaaDoorNDiv0
import Derived.Test.YtkmpobmpencefaaDoorRegKnd
import Derived.Test.YtkmpobmpencefaaDoorCmp
namespace Go.Proofs.YtkmpobmpencefaaDoor
open Go Go.RowKit

/-- What num.work answers. -/
def Wkd (a : Value) (b : Bool) (n : Nat) (f : Nat → Nat) (v : Value) : Prop := ∃ b' m, (∀ w0, Nm w0 a b n f → Wk w0 v b' m f) ∧ CanZ b' f m ∧ m ≤ n ∧ sgn b' (num 4294967296 f m) = sgn b (num 4294967296 f n)

/-- -1, 0 or 1. -/
def cmpZ (x y : Int) : Int := if x < y then -1 else if y < x then 1 else 0
theorem cmpZ_lt {x y : Int} (h : x < y) : cmpZ x y = -1 := by simp [cmpZ, h]
theorem cmpZ_gt {x y : Int} (h : y < x) : cmpZ x y = 1 := by unfold cmpZ; rw [if_neg (by omega), if_pos h]
theorem cmpZ_nat (x y : Nat) : cmpZ (x : Int) (y : Int) = cmpN x y := by
  unfold cmpZ cmpN
  rcases Nat.lt_trichotomy x y with h | h | h <;> simp [h] <;> omega
theorem cmpZ_neg (x y : Nat) : cmpZ (-(x : Int)) (-(y : Int)) = cmpN y x := by
  unfold cmpZ cmpN
  rcases Nat.lt_trichotomy x y with h | h | h <;> simp [h] <;> omega
theorem Wkd.cells {a v : Value} {b : Bool} {n : Nat} {f : Nat → Nat} {w : World} {cs : Array Value} (h : Wkd a b n f v) (ha : Nm w a b n f) (e : v = .agg cs) :
    ∃ ao' m' cap' b', cs = #[.slice ao' m' cap', .bool b'] ∧ Sl .u32 w (.slice ao' m' cap') m' f ∧ CanZ b' f m' ∧ m' ≤ n ∧ sgn b' (num 4294967296 f m') = sgn b (num 4294967296 f n) := by
  obtain ⟨b', m', h1, h2, h3, h4⟩ := h
  obtain ⟨v1, e1, s1⟩ := h1 w ha
  obtain ⟨ao1, cap1, rfl, -⟩ := id s1
  rw [e1] at e
  cases e
  exact ⟨ao1, m', cap1, b', rfl, s1, h2, h3, h4⟩

set_option linter.unusedSimpArgs false in
set_option maxRecDepth 4000 in
set_option maxHeartbeats 1000000 in
theorem cmpz_any (a u : Value) (ba bu : Bool) (n m : Nat) (f h : Nat → Nat) (w : World) (ha : Nm w a ba n f) (hu : Nm w u bu m h) (hf : ∀ i, i < n → f i < 4294967296) (hh : ∀ i, i < m → h i < 4294967296) :
    Calls Tryd.prog 32 #[a, u] w fun e w' => e = .returned (.int .i64 (cmpZ (sgn ba (num 4294967296 f n)) (sgn bu (num 4294967296 h m)))) ∧ Up w w' := by
  obtain ⟨v, rfl, hv⟩ := ha
  obtain ⟨v', rfl, hu⟩ := hu
  obtain ⟨ao, cap, rfl, -⟩ := id hv
  obtain ⟨ao', cap', rfl, -⟩ := id hu
  have K2 := hide (two_blocks w (.cells #[.bool ba, .slice ao n cap] 26) (.cells #[.bool bu, .slice ao' m cap'] 26))
  have U0 := (up_alloc w (.cells #[.bool ba, .slice ao n cap] 26)).tr (up_alloc _ (.cells #[.bool bu, .slice ao' m cap'] 26))
  have HV := hide (And.intro hv (And.intro hu (And.intro hf hh)))
  clear hv hu hf hh
  go_enter Tryd.func32, Tryd.ntmps32
  go_wp2_with fail
  refine wp_region_knd (by kernel_rfl) w U0 [[], [0], [], [2], [], [], [1, 4], [3, 5]] [.val [] (fun _ g _ => g.v = .agg #[.bool ba, .slice ao n cap]), .val [] (fun _ g _ => Wkd (.agg #[.bool ba, .slice ao n cap]) ba n f g.v), .val [] (fun _ g _ => g.v = .agg #[.bool bu, .slice ao' m cap']), .val [] (fun _ g _ => Wkd (.agg #[.bool bu, .slice ao' m cap']) bu m h g.v), .box 51 2, .box 51 2, .sto 4 1 51 2, .sto 5 3 51 2] (by kernel_rfl) (by kernel_rfl) rfl ⟨trivial, trivial, trivial, trivial, trivial, trivial, trivial, trivial, trivial⟩ ⟨fun _ _ _ _ _ h => h, fun _ _ _ _ _ h => h, fun _ _ _ _ _ h => h, fun _ _ _ _ _ h => h, trivial, trivial, trivial, trivial, trivial⟩ ⟨?_, ?_, ?_, ?_, ?_, ?_, ?_, ?_, trivial⟩ ?_
  · intro x w1 K hU hS hO hd hK
    have hG := hS.upb rfl
    obtain ⟨c0, c1, -⟩ := cells2 (Up.blk hG (unhide K2).1)
    refine Veil.mk ?_; simp only [kgoal, putsFrom, depsOf, List.getD_cons_zero, List.getD_cons_succ, List.contains_nil, List.contains_cons, Nat.zero_add, Nat.reduceAdd, Nat.reduceBEq, Bool.or_false, Bool.false_or, Bool.or_true, Bool.true_or, Bool.false_eq_true, ↓reduceIte, Act.put, List.setIfInBounds_toArray, List.set_cons_zero, List.set_cons_succ]
    go_simp
    exact hK _ _ (Up.refl _) rfl
  · intro x w1 K hU hS hO hd hK
    have hG := hS.upb rfl
    have h0 : (x 0).v = _ := kval (hd 0 (by decide)).1 rfl
    refine Veil.mk ?_; simp only [kgoal, putsFrom, depsOf, List.getD_cons_zero, List.getD_cons_succ, List.contains_nil, List.contains_cons, Nat.zero_add, Nat.reduceAdd, Nat.reduceBEq, Bool.or_false, Bool.false_or, Bool.or_true, Bool.true_or, Bool.false_eq_true, ↓reduceIte, Act.put, List.setIfInBounds_toArray, List.set_cons_zero, List.set_cons_succ]
    go_simp
    refine (work_any _ ba n f _ ⟨_, rfl, (unhide HV).1.up (U0.tr ((up_drew _).tr hG))⟩ (unhide HV).2.2.1).mono ?_
    rintro e w2 ⟨a2, b2, m2, rfl, hw2, u2, c2, l2, s2⟩
    exact hK _ _ u2 ⟨b2, m2, hw2, c2, l2, s2⟩
  · intro x w1 K hU hS hO hd hK
    have hG := hS.upb rfl
    obtain ⟨c0, c1, -⟩ := cells2 (Up.blk hG (unhide K2).2)
    refine Veil.mk ?_; simp only [kgoal, putsFrom, depsOf, List.getD_cons_zero, List.getD_cons_succ, List.contains_nil, List.contains_cons, Nat.zero_add, Nat.reduceAdd, Nat.reduceBEq, Bool.or_false, Bool.false_or, Bool.or_true, Bool.true_or, Bool.false_eq_true, ↓reduceIte, Act.put, List.setIfInBounds_toArray, List.set_cons_zero, List.set_cons_succ]
    go_simp
    exact hK _ _ (Up.refl _) rfl
  · intro x w1 K hU hS hO hd hK
    have hG := hS.upb rfl
    have h0 : (x 2).v = _ := kval (hd 2 (by decide)).1 rfl
    refine Veil.mk ?_; simp only [kgoal, putsFrom, depsOf, List.getD_cons_zero, List.getD_cons_succ, List.contains_nil, List.contains_cons, Nat.zero_add, Nat.reduceAdd, Nat.reduceBEq, Bool.or_false, Bool.false_or, Bool.or_true, Bool.true_or, Bool.false_eq_true, ↓reduceIte, Act.put, List.setIfInBounds_toArray, List.set_cons_zero, List.set_cons_succ]
    go_simp
    refine (work_any _ bu m h _ ⟨_, rfl, (unhide HV).2.1.up (U0.tr ((up_drew _).tr hG))⟩ (unhide HV).2.2.2).mono ?_
    rintro e w2 ⟨a2, b2, m2, rfl, hw2, u2, c2, l2, s2⟩
    exact hK _ _ u2 ⟨b2, m2, hw2, c2, l2, s2⟩
  · intro x w1 K hU hS hO hd hK
    have hG := hS.upb rfl
    refine Veil.mk ?_; simp only [kgoal, putsFrom, depsOf, List.getD_cons_zero, List.getD_cons_succ, List.contains_nil, List.contains_cons, Nat.zero_add, Nat.reduceAdd, Nat.reduceBEq, Bool.or_false, Bool.false_or, Bool.or_true, Bool.true_or, Bool.false_eq_true, ↓reduceIte, Act.put, List.setIfInBounds_toArray, List.set_cons_zero, List.set_cons_succ]
    go_simp
    exact hK _ _ (up_alloc _ _) (box_new rfl hS)
  · intro x w1 K hU hS hO hd hK
    have hG := hS.upb rfl
    refine Veil.mk ?_; simp only [kgoal, putsFrom, depsOf, List.getD_cons_zero, List.getD_cons_succ, List.contains_nil, List.contains_cons, Nat.zero_add, Nat.reduceAdd, Nat.reduceBEq, Bool.or_false, Bool.false_or, Bool.or_true, Bool.true_or, Bool.false_eq_true, ↓reduceIte, Act.put, List.setIfInBounds_toArray, List.set_cons_zero, List.set_cons_succ]
    go_simp
    exact hK _ _ (up_alloc _ _) (box_new rfl hS)
  · intro x w1 K hU hS hO hd hK
    have hG := hS.upb rfl
    obtain ⟨c0, c1, e4, h4⟩ := kbox2 (hd 4 (by decide)).1 rfl
    obtain ⟨b', m', h1, -⟩ := kval (hd 1 (by decide)).1 rfl
    obtain ⟨v1, e1, s1⟩ := h1 w ⟨_, rfl, (unhide HV).1⟩
    obtain ⟨ao1, cap1, rfl, -⟩ := id s1
    obtain ⟨d0, d1, f0, f1, -⟩ := cells2 h4
    clear hd h1 s1
    refine Veil.mk ?_; simp only [kgoal, putsFrom, depsOf, List.getD_cons_zero, List.getD_cons_succ, List.contains_nil, List.contains_cons, Nat.zero_add, Nat.reduceAdd, Nat.reduceBEq, Bool.or_false, Bool.false_or, Bool.or_true, Bool.true_or, Bool.false_eq_true, ↓reduceIte, Act.put, List.setIfInBounds_toArray, List.set_cons_zero, List.set_cons_succ]
    go_simp
    exact hK _ _ (sto_two h4 _ _).1 ⟨_, rfl, e1, (sto_two h4 _ _).2⟩
  · intro x w1 K hU hS hO hd hK
    have hG := hS.upb rfl
    obtain ⟨c0, c1, e4, h4⟩ := kbox2 (hd 5 (by decide)).1 rfl
    obtain ⟨b', m', h1, -⟩ := kval (hd 3 (by decide)).1 rfl
    obtain ⟨v1, e1, s1⟩ := h1 w ⟨_, rfl, (unhide HV).2.1⟩
    obtain ⟨ao1, cap1, rfl, -⟩ := id s1
    obtain ⟨d0, d1, f0, f1, -⟩ := cells2 h4
    clear hd h1 s1
    refine Veil.mk ?_; simp only [kgoal, putsFrom, depsOf, List.getD_cons_zero, List.getD_cons_succ, List.contains_nil, List.contains_cons, Nat.zero_add, Nat.reduceAdd, Nat.reduceBEq, Bool.or_false, Bool.false_or, Bool.or_true, Bool.true_or, Bool.false_eq_true, ↓reduceIte, Act.put, List.setIfInBounds_toArray, List.set_cons_zero, List.set_cons_succ]
    go_simp
    exact hK _ _ (sto_two h4 _ _).1 ⟨_, rfl, e1, (sto_two h4 _ _).2⟩
  · intro x w1 hU hS hR hlo hdis
    have hG := hS.upb rfl
    obtain ⟨e4, -⟩ := kbox (hR 4 (by decide)) rfl
    obtain ⟨e5, -⟩ := kbox (hR 5 (by decide)) rfl
    obtain ⟨cs1, -, q1, t1⟩ := ksto (hR 6 (by decide)) rfl
    obtain ⟨cs2, -, q2, t2⟩ := ksto (hR 7 (by decide)) rfl
    obtain ⟨ao1, m1, cap1, b1, rfl, s1, c1, l1, z1⟩ := Wkd.cells (kval (hR 1 (by decide)) rfl) ⟨_, rfl, (unhide HV).1⟩ q1
    obtain ⟨ao2, m2, cap2, b2, rfl, s2, c2, l2, z2⟩ := Wkd.cells (kval (hR 3 (by decide)) rfl) ⟨_, rfl, (unhide HV).2.1⟩ q2
    have U1 : Up w w1 := U0.tr ((up_drew _).tr hG)
    refine Veil.mk ?_; simp only [kgoal, putsFrom, depsOf, List.getD_cons_zero, List.getD_cons_succ, List.contains_nil, List.contains_cons, Nat.zero_add, Nat.reduceAdd, Nat.reduceBEq, Bool.or_false, Bool.false_or, Bool.or_true, Bool.true_or, Bool.false_eq_true, ↓reduceIte, Act.put, List.setIfInBounds_toArray, List.set_cons_zero, List.set_cons_succ]
    rw [e4, e5]
    generalize (x 4).lo = g4 at *
    generalize (x 5).lo = g5 at *
    generalize (x 0).v = y0 at *
    generalize (x 1).v = y1 at *
    generalize (x 2).v = y2 at *
    generalize (x 3).v = y3 at *
    obtain ⟨d0, d1, -⟩ := cells2 t1
    obtain ⟨d2, d3, -⟩ := cells2 t2
    have HZ := hide (And.intro z1 z2)
    have HS := hide (And.intro (s1.up U1) (And.intro (s2.up U1) (And.intro c1 c2)))
    clear hU hS hR hlo hdis z1 z2 s1 s2 q1 q2 t1 t2 hG c1 c2 HV K2 U0
    cases b1 <;> cases b2
    · go_wp2_with fail
      refine (cmp_any _ _ m1 m2 f h _ (unhide HS).1 (unhide HS).2.1 (unhide HS).2.2.1.1.1 (unhide HS).2.2.2.1.1).mono ?_
      rintro e w2 ⟨rfl, u2⟩
      go_wp2_with fail
      go_ret
      refine ⟨ret_int ?_, U1.tr u2⟩
      rw [← (unhide HZ).1, ← (unhide HZ).2]
      exact (cmpZ_nat _ _).symm
    · go_wp2_with fail
      go_ret
      refine ⟨ret_int ?_, U1⟩
      rw [← (unhide HZ).1, ← (unhide HZ).2]
      have := num_pos (unhide HS).2.2.2.1 ((unhide HS).2.2.2.2 rfl)
      exact (cmpZ_gt (by simp only [sgn]; simp; omega)).symm
    · go_wp2_with fail
      go_ret
      refine ⟨ret_int ?_, U1⟩
      rw [← (unhide HZ).1, ← (unhide HZ).2]
      have := num_pos (unhide HS).2.2.1.1 ((unhide HS).2.2.1.2 rfl)
      exact (cmpZ_lt (by simp only [sgn]; simp; omega)).symm
    · go_wp2_with fail
      refine (cmp_any _ _ m2 m1 h f _ (unhide HS).2.1 (unhide HS).1 (unhide HS).2.2.2.1.1 (unhide HS).2.2.1.1.1).mono ?_
      rintro e w2 ⟨rfl, u2⟩
      go_wp2_with fail
      go_ret
      refine ⟨ret_int ?_, U1.tr u2⟩
      rw [← (unhide HZ).1, ← (unhide HZ).2]
      exact (cmpZ_neg _ _).symm

end Go.Proofs.YtkmpobmpencefaaDoor
