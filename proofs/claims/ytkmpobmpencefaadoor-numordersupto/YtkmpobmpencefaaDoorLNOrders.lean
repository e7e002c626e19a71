/-
  What is proved here: tandemlaw02.NumOrders answers true for all numbers of at most 1048576 limbs together.
-/
import Derived.Test.YtkmpobmpencefaaDoorNCon
import Derived.Test.YtkmpobmpencefaaDoorNParse
namespace Go.Proofs.YtkmpobmpencefaaDoor
open Go Go.RowKit

theorem cmpZ_self (x : Int) : cmpZ x x = 0 := by simp [cmpZ]
theorem RdC.zero {X : Int} {M : Nat} {w : World} {b : Bool} {ao : Option Addr} {n cap : Nat} (h : RdC X M w (.agg #[.bool b, .slice ao n cap])) (hX : X = 0) : b = false ∧ n = 0 := by
  obtain ⟨b', n', f, ⟨v, e, s⟩, c, l, k⟩ := h
  cases e
  obtain ⟨ao', cap', e, -⟩ := s
  cases e
  rw [hX] at k
  by_cases h0 : n = 0
  · refine ⟨?_, h0⟩
    cases b with
    | false => rfl
    | true => exact absurd h0 (c.2 rfl)
  · have := num_pos c.1 h0
    cases b <;> simp [sgn] at k <;> omega
theorem text_rd {X : Int} {M : Nat} {w : World} {a : Value} (h : RdD X M w a) (hM : 100 * (M + 1) ≤ 140737488355328) (htab : Tab w) :
    Calls Tryd.prog 44 #[a] w fun e w' => ∃ s, e = .returned (.string s) ∧ Up w w' ∧ s.size ≤ 18 * M + 21 ∧ SaysZ s X := by
  obtain ⟨b, n, f, hn, d, l, s⟩ := h
  refine (textz_any a b n f w hn d (by omega) htab).mono ?_
  rintro e w' ⟨t, rfl, u, l', k⟩
  exact ⟨t, rfl, u, by omega, by rw [← s]; exact k⟩
/-- A number's own text is read as that number. -/
theorem parse_rd (s : ByteArray) (X : Int) (M : Nat) (w : World) (h : SaysZ s X) (hs : 4 * (s.size + 3) ≤ 140737488355328) (hM : s.size + 1 ≤ M) :
    Calls Tryd.prog 42 #[.string s] w fun e w' => ∃ v, e = .returned (.tuple #[v, .bool true]) ∧ NumIn X M w' w.heap.size w'.heap.size v ∧ Up w w' := by
  rcases h with ⟨h0, h1⟩ | ⟨h0, t, rfl, h1⟩
  · refine (parsez_plain s _ w h1.digs hs).mono ?_
    rintro e w' ⟨a, b, n, f, rfl, o, u, c, l, k⟩
    refine ⟨a, rfl, ⟨b, n, f, CopIn.of o, c, by omega, ?_⟩, u⟩
    rw [k]
    simp only [sgn]
    simp
    omega
  · have hz : (⟨#[45]⟩ ++ t : ByteArray).size = t.size + 1 := by rw [ByteArray.size_append]; show 1 + t.size = _; omega
    refine (parsez_sign 45 t _ w (.inr rfl) h1.digs (by omega)).mono ?_
    rintro e w' ⟨a, b, n, f, rfl, o, u, c, l, k⟩
    refine ⟨a, rfl, ⟨b, n, f, CopIn.of o, c, by omega, ?_⟩, u⟩
    rw [k]
    simp only [sgn]
    simp
    omega

set_option linter.unusedSimpArgs false in
set_option maxRecDepth 60000 in
set_option maxHeartbeats 4000000 in
theorem orders_walk (aa : Value) (ba : Bool) (na : Nat) (fa : Nat → Nat) (ab : Value) (bb : Bool) (nb : Nat) (fb : Nat → Nat) (ad : Value) (bd : Bool) (nd : Nat) (fd : Nat → Nat) (w : World) (haa : Nm w aa ba na fa) (hab : Nm w ab bb nb fb) (had : Nm w ad bd nd fd) (hfa : ∀ i, i < na → fa i < 4294967296) (hfb : ∀ i, i < nb → fb i < 4294967296) (hfd : ∀ i, i < nd → fd i < 4294967296) (hna : na ≤ 1048576) (hnb : nb ≤ 1048576) (hnd : nd ≤ 1048576) (htab : Tab w) :
    Calls Tryd.prog 12 #[aa, ab, ad] w fun e w' => e = .returned (.bool true) ∧ Up w w' := by
  obtain ⟨va, rfl, hva⟩ := haa
  obtain ⟨aoa, capa, rfl, -⟩ := id hva
  obtain ⟨Xa, hXa⟩ : ∃ X, sgn ba (num 4294967296 fa na) = X := ⟨_, rfl⟩
  have Ra := hide (show RdD Xa na w (.agg #[.bool ba, .slice aoa na capa]) from ⟨ba, na, fa, ⟨_, rfl, hva⟩, hfa, Nat.le_refl _, hXa⟩)
  obtain ⟨vb, rfl, hvb⟩ := hab
  obtain ⟨aob, capb, rfl, -⟩ := id hvb
  obtain ⟨Xb, hXb⟩ : ∃ X, sgn bb (num 4294967296 fb nb) = X := ⟨_, rfl⟩
  have Rb := hide (show RdD Xb nb w (.agg #[.bool bb, .slice aob nb capb]) from ⟨bb, nb, fb, ⟨_, rfl, hvb⟩, hfb, Nat.le_refl _, hXb⟩)
  obtain ⟨vd, rfl, hvd⟩ := had
  obtain ⟨aod, capd, rfl, -⟩ := id hvd
  obtain ⟨Xd, hXd⟩ : ∃ X, sgn bd (num 4294967296 fd nd) = X := ⟨_, rfl⟩
  have Rd := hide (show RdD Xd nd w (.agg #[.bool bd, .slice aod nd capd]) from ⟨bd, nd, fd, ⟨_, rfl, hvd⟩, hfd, Nat.le_refl _, hXd⟩)
  have HT := hide htab
  clear htab hva hfa hXa hvb hfb hXb hvd hfd hXd
  have K3 := hide (three_blocks w (.cells #[.bool ba, .slice aoa na capa] 26) (.cells #[.bool bb, .slice aob nb capb] 26) (.cells #[.bool bd, .slice aod nd capd] 26))
  have U0 := ((up_alloc w (.cells #[.bool ba, .slice aoa na capa] 26)).tr (up_alloc _ (.cells #[.bool bb, .slice aob nb capb] 26))).tr (up_alloc _ (.cells #[.bool bd, .slice aod nd capd] 26))
  go_enter Tryd.func12, Tryd.ntmps12
  go_wp2_with fail
  rcases Int.lt_trichotomy Xa Xb with hlt | hlt | hlt
  · have hc1 : cmpZ Xa Xb = -1 := cmpZ_lt hlt
    have hc2 : cmpZ Xb Xa = 1 := cmpZ_gt hlt
    have hc3 : cmpZ (Xa + Xd) (Xb + Xd) = -1 := cmpZ_lt (by omega)
    clear hlt
    refine wp_region_knd (by kernel_rfl) w U0 [[], [0], [], [2], [1, 3], [], [5], [], [7], [6, 8], [9], [4, 10], [11], [12], [13, 12], [12], [15, 12], [14, 16, 12], [17, 14, 16, 12], [12], [19, 12], [12], [21, 12], [20, 22, 12], [23, 20, 22, 12], [18, 24, 12], [12], [26, 12], [12], [28, 12], [27, 29, 12], [25, 30, 12], [12, 31]] (Knd.val [] (fun _ g _ => g.v = .agg #[.bool ba, .slice aoa na capa]) :: Knd.val [] (fun w g _ => NumD (Xa) (na) w g.lo g.hi g.v) :: Knd.val [] (fun _ g _ => g.v = .agg #[.bool bb, .slice aob nb capb]) :: Knd.val [] (fun w g _ => NumD (Xb) (nb) w g.lo g.hi g.v) :: Knd.val [] (fun _ g _ => g.v = .int .i64 (-1)) :: Knd.val [] (fun _ g _ => g.v = .agg #[.bool bb, .slice aob nb capb]) :: Knd.val [] (fun w g _ => NumD (Xb) (nb) w g.lo g.hi g.v) :: Knd.val [] (fun _ g _ => g.v = .agg #[.bool ba, .slice aoa na capa]) :: Knd.val [] (fun w g _ => NumD (Xa) (na) w g.lo g.hi g.v) :: Knd.val [] (fun _ g _ => g.v = .int .i64 (1)) :: Knd.val [] (fun _ g _ => g.v = .int .i64 (-1)) :: Knd.val [] (fun _ g _ => g.v = .bool false) :: Knd.val [] (fun _ g _ => g.v = .bool false) :: Knd.val [] (fun _ g _ => g.v = .agg #[.bool ba, .slice aoa na capa]) :: Knd.val [] (fun w g _ => NumD (Xa) (na) w g.lo g.hi g.v) :: Knd.val [] (fun _ g _ => g.v = .agg #[.bool bd, .slice aod nd capd]) :: Knd.val [] (fun w g _ => NumD (Xd) (nd) w g.lo g.hi g.v) :: Knd.val [14, 16] (fun w g vs => Pair2 w g vs) :: Knd.val [] (fun w g _ => NumIn (Xa + Xd) (1048576 + 1) w g.lo g.hi g.v) :: Knd.val [] (fun _ g _ => g.v = .agg #[.bool bb, .slice aob nb capb]) :: Knd.val [] (fun w g _ => NumD (Xb) (nb) w g.lo g.hi g.v) :: Knd.val [] (fun _ g _ => g.v = .agg #[.bool bd, .slice aod nd capd]) :: Knd.val [] (fun w g _ => NumD (Xd) (nd) w g.lo g.hi g.v) :: Knd.val [20, 22] (fun w g vs => Pair2 w g vs) :: Knd.val [] (fun w g _ => NumIn (Xb + Xd) (1048576 + 1) w g.lo g.hi g.v) :: Knd.val [] (fun _ g _ => g.v = .int .i64 (-1)) :: Knd.val [] (fun _ g _ => g.v = .agg #[.bool ba, .slice aoa na capa]) :: Knd.val [] (fun w g _ => NumD (Xa) (na) w g.lo g.hi g.v) :: Knd.val [] (fun _ g _ => g.v = .agg #[.bool bb, .slice aob nb capb]) :: Knd.val [] (fun w g _ => NumD (Xb) (nb) w g.lo g.hi g.v) :: Knd.val [] (fun _ g _ => g.v = .int .i64 (-1)) :: Knd.val [] (fun _ g _ => g.v = .bool false) :: Knd.val [] (fun _ g _ => g.v = .bool false) :: []) (by kernel_rfl) (by kernel_rfl) rfl ⟨trivial, trivial, trivial, trivial, trivial, trivial, trivial, trivial, trivial, trivial, trivial, trivial, trivial, trivial, trivial, trivial, trivial, trivial, trivial, trivial, trivial, trivial, trivial, trivial, trivial, trivial, trivial, trivial, trivial, trivial, trivial, trivial, trivial, trivial⟩ ⟨fun _ _ _ _ _ h => h, fun _ _ _ _ hb h => h.keep hb, fun _ _ _ _ _ h => h, fun _ _ _ _ hb h => h.keep hb, fun _ _ _ _ _ h => h, fun _ _ _ _ _ h => h, fun _ _ _ _ hb h => h.keep hb, fun _ _ _ _ _ h => h, fun _ _ _ _ hb h => h.keep hb, fun _ _ _ _ _ h => h, fun _ _ _ _ _ h => h, fun _ _ _ _ _ h => h, fun _ _ _ _ _ h => h, fun _ _ _ _ _ h => h, fun _ _ _ _ hb h => h.keep hb, fun _ _ _ _ _ h => h, fun _ _ _ _ hb h => h.keep hb, fun _ _ _ _ hb h => h.keep hb, fun _ _ _ _ hb h => h.keep hb, fun _ _ _ _ _ h => h, fun _ _ _ _ hb h => h.keep hb, fun _ _ _ _ _ h => h, fun _ _ _ _ hb h => h.keep hb, fun _ _ _ _ hb h => h.keep hb, fun _ _ _ _ hb h => h.keep hb, fun _ _ _ _ _ h => h, fun _ _ _ _ _ h => h, fun _ _ _ _ hb h => h.keep hb, fun _ _ _ _ _ h => h, fun _ _ _ _ hb h => h.keep hb, fun _ _ _ _ _ h => h, fun _ _ _ _ _ h => h, fun _ _ _ _ _ h => h, trivial⟩ ⟨?_, ?_, ?_, ?_, ?_, ?_, ?_, ?_, ?_, ?_, ?_, ?_, ?_, ?_, ?_, ?_, ?_, ?_, ?_, ?_, ?_, ?_, ?_, ?_, ?_, ?_, ?_, ?_, ?_, ?_, ?_, ?_, ?_, trivial⟩ ?_
    · intro x w1 K hU hS hO hd hK
      obtain ⟨k0, k1, -⟩ := cells2 ((Up.tr (up_drew _) (hS.upb rfl)).blk (unhide K3).1)
      clear hd
      refine Veil.mk ?_; simp only [kgoal, putsFrom, depsOf, pu0, pu1, pu2, pu3, Nat.zero_add, Nat.reduceAdd, Nat.reduceBEq, Bool.or_false, Bool.false_or, Bool.or_true, Bool.true_or, Bool.false_eq_true, ↓reduceIte, Act.put, List.setIfInBounds_toArray, List.set_cons_zero, List.set_cons_succ]
      go_simp
      exact hK _ _ (Up.refl _) rfl
    · intro x w1 K hU hS hO hd hK
      have h0 : (x 0).v = .agg #[.bool ba, .slice aoa na capa] := kval (hd 0 (by decide)).1 rfl
      clear hd
      refine Veil.mk ?_; simp only [kgoal, putsFrom, depsOf, pu0, pu1, pu2, pu3, Nat.zero_add, Nat.reduceAdd, Nat.reduceBEq, Bool.or_false, Bool.false_or, Bool.or_true, Bool.true_or, Bool.false_eq_true, ↓reduceIte, Act.put, List.setIfInBounds_toArray, List.set_cons_zero, List.set_cons_succ]
      simp only [h0]
      go_simp
      refine (c_rd (M := na) (((unhide Ra).up hU)) (by omega)).mono ?_
      rintro e w2 ⟨v2, rfl, n2, u2⟩
      exact hK _ _ u2 n2
    · intro x w1 K hU hS hO hd hK
      obtain ⟨k0, k1, -⟩ := cells2 ((Up.tr (up_drew _) (hS.upb rfl)).blk (unhide K3).2.1)
      clear hd
      refine Veil.mk ?_; simp only [kgoal, putsFrom, depsOf, pu0, pu1, pu2, pu3, Nat.zero_add, Nat.reduceAdd, Nat.reduceBEq, Bool.or_false, Bool.false_or, Bool.or_true, Bool.true_or, Bool.false_eq_true, ↓reduceIte, Act.put, List.setIfInBounds_toArray, List.set_cons_zero, List.set_cons_succ]
      go_simp
      exact hK _ _ (Up.refl _) rfl
    · intro x w1 K hU hS hO hd hK
      have h2 : (x 2).v = .agg #[.bool bb, .slice aob nb capb] := kval (hd 2 (by decide)).1 rfl
      clear hd
      refine Veil.mk ?_; simp only [kgoal, putsFrom, depsOf, pu0, pu1, pu2, pu3, Nat.zero_add, Nat.reduceAdd, Nat.reduceBEq, Bool.or_false, Bool.false_or, Bool.or_true, Bool.true_or, Bool.false_eq_true, ↓reduceIte, Act.put, List.setIfInBounds_toArray, List.set_cons_zero, List.set_cons_succ]
      simp only [h2]
      go_simp
      refine (c_rd (M := nb) (((unhide Rb).up hU)) (by omega)).mono ?_
      rintro e w2 ⟨v2, rfl, n2, u2⟩
      exact hK _ _ u2 n2
    · intro x w1 K hU hS hO hd hK
      have h1 : NumD (Xa) (na) w1 (x 1).lo (x 1).hi (x 1).v := kval (hd 1 (by decide)).1 rfl
      have h3 : NumD (Xb) (nb) w1 (x 3).lo (x 3).hi (x 3).v := kval (hd 3 (by decide)).1 rfl
      clear hd
      refine Veil.mk ?_; simp only [kgoal, putsFrom, depsOf, pu0, pu1, pu2, pu3, Nat.zero_add, Nat.reduceAdd, Nat.reduceBEq, Bool.or_false, Bool.false_or, Bool.or_true, Bool.true_or, Bool.false_eq_true, ↓reduceIte, Act.put, List.setIfInBounds_toArray, List.set_cons_zero, List.set_cons_succ]
      go_simp
      refine (cmp_rd (M := 1048576) (h1.rd (by omega)) (h3.rd (by omega))).mono ?_
      rintro e w2 ⟨v2, rfl, n2, u2⟩
      rw [hc1] at n2
      exact hK _ _ u2 n2
    · intro x w1 K hU hS hO hd hK
      obtain ⟨k0, k1, -⟩ := cells2 ((Up.tr (up_drew _) (hS.upb rfl)).blk (unhide K3).2.1)
      clear hd
      refine Veil.mk ?_; simp only [kgoal, putsFrom, depsOf, pu0, pu1, pu2, pu3, Nat.zero_add, Nat.reduceAdd, Nat.reduceBEq, Bool.or_false, Bool.false_or, Bool.or_true, Bool.true_or, Bool.false_eq_true, ↓reduceIte, Act.put, List.setIfInBounds_toArray, List.set_cons_zero, List.set_cons_succ]
      go_simp
      exact hK _ _ (Up.refl _) rfl
    · intro x w1 K hU hS hO hd hK
      have h5 : (x 5).v = .agg #[.bool bb, .slice aob nb capb] := kval (hd 5 (by decide)).1 rfl
      clear hd
      refine Veil.mk ?_; simp only [kgoal, putsFrom, depsOf, pu0, pu1, pu2, pu3, Nat.zero_add, Nat.reduceAdd, Nat.reduceBEq, Bool.or_false, Bool.false_or, Bool.or_true, Bool.true_or, Bool.false_eq_true, ↓reduceIte, Act.put, List.setIfInBounds_toArray, List.set_cons_zero, List.set_cons_succ]
      simp only [h5]
      go_simp
      refine (c_rd (M := nb) (((unhide Rb).up hU)) (by omega)).mono ?_
      rintro e w2 ⟨v2, rfl, n2, u2⟩
      exact hK _ _ u2 n2
    · intro x w1 K hU hS hO hd hK
      obtain ⟨k0, k1, -⟩ := cells2 ((Up.tr (up_drew _) (hS.upb rfl)).blk (unhide K3).1)
      clear hd
      refine Veil.mk ?_; simp only [kgoal, putsFrom, depsOf, pu0, pu1, pu2, pu3, Nat.zero_add, Nat.reduceAdd, Nat.reduceBEq, Bool.or_false, Bool.false_or, Bool.or_true, Bool.true_or, Bool.false_eq_true, ↓reduceIte, Act.put, List.setIfInBounds_toArray, List.set_cons_zero, List.set_cons_succ]
      go_simp
      exact hK _ _ (Up.refl _) rfl
    · intro x w1 K hU hS hO hd hK
      have h7 : (x 7).v = .agg #[.bool ba, .slice aoa na capa] := kval (hd 7 (by decide)).1 rfl
      clear hd
      refine Veil.mk ?_; simp only [kgoal, putsFrom, depsOf, pu0, pu1, pu2, pu3, Nat.zero_add, Nat.reduceAdd, Nat.reduceBEq, Bool.or_false, Bool.false_or, Bool.or_true, Bool.true_or, Bool.false_eq_true, ↓reduceIte, Act.put, List.setIfInBounds_toArray, List.set_cons_zero, List.set_cons_succ]
      simp only [h7]
      go_simp
      refine (c_rd (M := na) (((unhide Ra).up hU)) (by omega)).mono ?_
      rintro e w2 ⟨v2, rfl, n2, u2⟩
      exact hK _ _ u2 n2
    · intro x w1 K hU hS hO hd hK
      have h6 : NumD (Xb) (nb) w1 (x 6).lo (x 6).hi (x 6).v := kval (hd 6 (by decide)).1 rfl
      have h8 : NumD (Xa) (na) w1 (x 8).lo (x 8).hi (x 8).v := kval (hd 8 (by decide)).1 rfl
      clear hd
      refine Veil.mk ?_; simp only [kgoal, putsFrom, depsOf, pu0, pu1, pu2, pu3, Nat.zero_add, Nat.reduceAdd, Nat.reduceBEq, Bool.or_false, Bool.false_or, Bool.or_true, Bool.true_or, Bool.false_eq_true, ↓reduceIte, Act.put, List.setIfInBounds_toArray, List.set_cons_zero, List.set_cons_succ]
      go_simp
      refine (cmp_rd (M := 1048576) (h6.rd (by omega)) (h8.rd (by omega))).mono ?_
      rintro e w2 ⟨v2, rfl, n2, u2⟩
      rw [hc2] at n2
      exact hK _ _ u2 n2
    · intro x w1 K hU hS hO hd hK
      have h9 : (x 9).v = .int .i64 (1) := kval (hd 9 (by decide)).1 rfl
      clear hd
      refine Veil.mk ?_; simp only [kgoal, putsFrom, depsOf, pu0, pu1, pu2, pu3, Nat.zero_add, Nat.reduceAdd, Nat.reduceBEq, Bool.or_false, Bool.false_or, Bool.or_true, Bool.true_or, Bool.false_eq_true, ↓reduceIte, Act.put, List.setIfInBounds_toArray, List.set_cons_zero, List.set_cons_succ]
      simp only [h9]
      go_simp
      exact hK _ _ (Up.refl _) rfl
    · intro x w1 K hU hS hO hd hK
      have h4 : (x 4).v = .int .i64 (-1) := kval (hd 4 (by decide)).1 rfl
      have h10 : (x 10).v = .int .i64 (-1) := kval (hd 10 (by decide)).1 rfl
      clear hd
      refine Veil.mk ?_; simp only [kgoal, putsFrom, depsOf, pu0, pu1, pu2, pu3, Nat.zero_add, Nat.reduceAdd, Nat.reduceBEq, Bool.or_false, Bool.false_or, Bool.or_true, Bool.true_or, Bool.false_eq_true, ↓reduceIte, Act.put, List.setIfInBounds_toArray, List.set_cons_zero, List.set_cons_succ]
      simp only [h4, h10]
      go_simp
      exact hK _ _ (Up.refl _) rfl
    · intro x w1 K hU hS hO hd hK
      have h11 : (x 11).v = .bool false := kval (hd 11 (by decide)).1 rfl
      clear hd
      refine Veil.mk ?_; simp only [kgoal, putsFrom, depsOf, pu0, pu1, pu2, pu3, Nat.zero_add, Nat.reduceAdd, Nat.reduceBEq, Bool.or_false, Bool.false_or, Bool.or_true, Bool.true_or, Bool.false_eq_true, ↓reduceIte, Act.put, List.setIfInBounds_toArray, List.set_cons_zero, List.set_cons_succ]
      simp only [h11]
      go_simp
      exact hK _ _ (Up.refl _) rfl
    · intro x w1 K hU hS hO hd hK
      have h12 : (x 12).v = .bool false := kval (hd 12 (by decide)).1 rfl
      obtain ⟨k0, k1, -⟩ := cells2 ((Up.tr (up_drew _) (hS.upb rfl)).blk (unhide K3).1)
      clear hd
      refine Veil.mk ?_; simp only [kgoal, putsFrom, depsOf, pu0, pu1, pu2, pu3, Nat.zero_add, Nat.reduceAdd, Nat.reduceBEq, Bool.or_false, Bool.false_or, Bool.or_true, Bool.true_or, Bool.false_eq_true, ↓reduceIte, Act.put, List.setIfInBounds_toArray, List.set_cons_zero, List.set_cons_succ]
      simp only [h12]
      rw [if_pos (by rfl)]
      go_simp
      exact hK _ _ (Up.refl _) rfl
    · intro x w1 K hU hS hO hd hK
      have h13 : (x 13).v = .agg #[.bool ba, .slice aoa na capa] := kval (hd 13 (by decide)).1 rfl
      have h12 : (x 12).v = .bool false := kval (hd 12 (by decide)).1 rfl
      clear hd
      refine Veil.mk ?_; simp only [kgoal, putsFrom, depsOf, pu0, pu1, pu2, pu3, Nat.zero_add, Nat.reduceAdd, Nat.reduceBEq, Bool.or_false, Bool.false_or, Bool.or_true, Bool.true_or, Bool.false_eq_true, ↓reduceIte, Act.put, List.setIfInBounds_toArray, List.set_cons_zero, List.set_cons_succ]
      simp only [h13, h12]
      rw [if_pos (by rfl)]
      go_simp
      refine (c_rd (M := na) (((unhide Ra).up hU)) (by omega)).mono ?_
      rintro e w2 ⟨v2, rfl, n2, u2⟩
      exact hK _ _ u2 n2
    · intro x w1 K hU hS hO hd hK
      have h12 : (x 12).v = .bool false := kval (hd 12 (by decide)).1 rfl
      obtain ⟨k0, k1, -⟩ := cells2 ((Up.tr (up_drew _) (hS.upb rfl)).blk (unhide K3).2.2)
      clear hd
      refine Veil.mk ?_; simp only [kgoal, putsFrom, depsOf, pu0, pu1, pu2, pu3, Nat.zero_add, Nat.reduceAdd, Nat.reduceBEq, Bool.or_false, Bool.false_or, Bool.or_true, Bool.true_or, Bool.false_eq_true, ↓reduceIte, Act.put, List.setIfInBounds_toArray, List.set_cons_zero, List.set_cons_succ]
      simp only [h12]
      rw [if_pos (by rfl)]
      go_simp
      exact hK _ _ (Up.refl _) rfl
    · intro x w1 K hU hS hO hd hK
      have h15 : (x 15).v = .agg #[.bool bd, .slice aod nd capd] := kval (hd 15 (by decide)).1 rfl
      have h12 : (x 12).v = .bool false := kval (hd 12 (by decide)).1 rfl
      clear hd
      refine Veil.mk ?_; simp only [kgoal, putsFrom, depsOf, pu0, pu1, pu2, pu3, Nat.zero_add, Nat.reduceAdd, Nat.reduceBEq, Bool.or_false, Bool.false_or, Bool.or_true, Bool.true_or, Bool.false_eq_true, ↓reduceIte, Act.put, List.setIfInBounds_toArray, List.set_cons_zero, List.set_cons_succ]
      simp only [h15, h12]
      rw [if_pos (by rfl)]
      go_simp
      refine (c_rd (M := nd) (((unhide Rd).up hU)) (by omega)).mono ?_
      rintro e w2 ⟨v2, rfl, n2, u2⟩
      exact hK _ _ u2 n2
    · intro x w1 K hU hS hO hd hK
      have h14 : NumD (Xa) (na) w1 (x 14).lo (x 14).hi (x 14).v := kval (hd 14 (by decide)).1 rfl
      have h16 : NumD (Xd) (nd) w1 (x 16).lo (x 16).hi (x 16).v := kval (hd 16 (by decide)).1 rfl
      have h12 : (x 12).v = .bool false := kval (hd 12 (by decide)).1 rfl
      obtain ⟨pa, qa, ra, ta, ea⟩ := (h14.rd (Nat.le_refl _)).agg
      obtain ⟨pb, qb, rb, tb, eb⟩ := (h16.rd (Nat.le_refl _)).agg
      clear hd
      refine Veil.mk ?_; simp only [kgoal, putsFrom, depsOf, pu0, pu1, pu2, pu3, Nat.zero_add, Nat.reduceAdd, Nat.reduceBEq, Bool.or_false, Bool.false_or, Bool.or_true, Bool.true_or, Bool.false_eq_true, ↓reduceIte, Act.put, List.setIfInBounds_toArray, List.set_cons_zero, List.set_cons_succ]
      simp only [ea, eb, h12]
      rw [if_pos (by rfl)]
      go_simp
      exact hK _ _ (up_alloc _ _) ⟨rfl, by show w1.heap.size < (w1.alloc _).heap.size; simp, _, _, _, _, by show [(x 14).v, (x 16).v] = _; rw [ea, eb], heap_alloc_new w1 _⟩
    · intro x w1 K hU hS hO hd hK
      have h17 : Pair2 w1 (x 17) [(x 14).v, (x 16).v] := kval (hd 17 (by decide)).1 rfl
      have h14 : NumD (Xa) (na) w1 (x 14).lo (x 14).hi (x 14).v := kval (hd 14 (by decide)).1 rfl
      have h16 : NumD (Xd) (nd) w1 (x 16).lo (x 16).hi (x 16).v := kval (hd 16 (by decide)).1 rfl
      have h12 : (x 12).v = .bool false := kval (hd 12 (by decide)).1 rfl
      obtain ⟨ep, -, b1, v1, b2, v2, ql, hb⟩ := h17
      have ea := (List.cons.inj ql).1
      have eb := (List.cons.inj (List.cons.inj ql).2).1
      rw [ea] at h14
      rw [eb] at h16
      clear hd
      refine Veil.mk ?_; simp only [kgoal, putsFrom, depsOf, pu0, pu1, pu2, pu3, Nat.zero_add, Nat.reduceAdd, Nat.reduceBEq, Bool.or_false, Bool.false_or, Bool.or_true, Bool.true_or, Bool.false_eq_true, ↓reduceIte, Act.put, List.setIfInBounds_toArray, List.set_cons_zero, List.set_cons_succ]
      simp only [ep, h12]
      rw [if_pos (by rfl)]
      go_simp
      refine (add2_rd (M := 1048576) hb (h14.rd (by omega)) (h16.rd (by omega)) (by omega)).mono ?_
      rintro e w2 ⟨v2, rfl, n2, u2⟩
      exact hK _ _ u2 n2
    · intro x w1 K hU hS hO hd hK
      have h12 : (x 12).v = .bool false := kval (hd 12 (by decide)).1 rfl
      obtain ⟨k0, k1, -⟩ := cells2 ((Up.tr (up_drew _) (hS.upb rfl)).blk (unhide K3).2.1)
      clear hd
      refine Veil.mk ?_; simp only [kgoal, putsFrom, depsOf, pu0, pu1, pu2, pu3, Nat.zero_add, Nat.reduceAdd, Nat.reduceBEq, Bool.or_false, Bool.false_or, Bool.or_true, Bool.true_or, Bool.false_eq_true, ↓reduceIte, Act.put, List.setIfInBounds_toArray, List.set_cons_zero, List.set_cons_succ]
      simp only [h12]
      rw [if_pos (by rfl)]
      go_simp
      exact hK _ _ (Up.refl _) rfl
    · intro x w1 K hU hS hO hd hK
      have h19 : (x 19).v = .agg #[.bool bb, .slice aob nb capb] := kval (hd 19 (by decide)).1 rfl
      have h12 : (x 12).v = .bool false := kval (hd 12 (by decide)).1 rfl
      clear hd
      refine Veil.mk ?_; simp only [kgoal, putsFrom, depsOf, pu0, pu1, pu2, pu3, Nat.zero_add, Nat.reduceAdd, Nat.reduceBEq, Bool.or_false, Bool.false_or, Bool.or_true, Bool.true_or, Bool.false_eq_true, ↓reduceIte, Act.put, List.setIfInBounds_toArray, List.set_cons_zero, List.set_cons_succ]
      simp only [h19, h12]
      rw [if_pos (by rfl)]
      go_simp
      refine (c_rd (M := nb) (((unhide Rb).up hU)) (by omega)).mono ?_
      rintro e w2 ⟨v2, rfl, n2, u2⟩
      exact hK _ _ u2 n2
    · intro x w1 K hU hS hO hd hK
      have h12 : (x 12).v = .bool false := kval (hd 12 (by decide)).1 rfl
      obtain ⟨k0, k1, -⟩ := cells2 ((Up.tr (up_drew _) (hS.upb rfl)).blk (unhide K3).2.2)
      clear hd
      refine Veil.mk ?_; simp only [kgoal, putsFrom, depsOf, pu0, pu1, pu2, pu3, Nat.zero_add, Nat.reduceAdd, Nat.reduceBEq, Bool.or_false, Bool.false_or, Bool.or_true, Bool.true_or, Bool.false_eq_true, ↓reduceIte, Act.put, List.setIfInBounds_toArray, List.set_cons_zero, List.set_cons_succ]
      simp only [h12]
      rw [if_pos (by rfl)]
      go_simp
      exact hK _ _ (Up.refl _) rfl
    · intro x w1 K hU hS hO hd hK
      have h21 : (x 21).v = .agg #[.bool bd, .slice aod nd capd] := kval (hd 21 (by decide)).1 rfl
      have h12 : (x 12).v = .bool false := kval (hd 12 (by decide)).1 rfl
      clear hd
      refine Veil.mk ?_; simp only [kgoal, putsFrom, depsOf, pu0, pu1, pu2, pu3, Nat.zero_add, Nat.reduceAdd, Nat.reduceBEq, Bool.or_false, Bool.false_or, Bool.or_true, Bool.true_or, Bool.false_eq_true, ↓reduceIte, Act.put, List.setIfInBounds_toArray, List.set_cons_zero, List.set_cons_succ]
      simp only [h21, h12]
      rw [if_pos (by rfl)]
      go_simp
      refine (c_rd (M := nd) (((unhide Rd).up hU)) (by omega)).mono ?_
      rintro e w2 ⟨v2, rfl, n2, u2⟩
      exact hK _ _ u2 n2
    · intro x w1 K hU hS hO hd hK
      have h20 : NumD (Xb) (nb) w1 (x 20).lo (x 20).hi (x 20).v := kval (hd 20 (by decide)).1 rfl
      have h22 : NumD (Xd) (nd) w1 (x 22).lo (x 22).hi (x 22).v := kval (hd 22 (by decide)).1 rfl
      have h12 : (x 12).v = .bool false := kval (hd 12 (by decide)).1 rfl
      obtain ⟨pa, qa, ra, ta, ea⟩ := (h20.rd (Nat.le_refl _)).agg
      obtain ⟨pb, qb, rb, tb, eb⟩ := (h22.rd (Nat.le_refl _)).agg
      clear hd
      refine Veil.mk ?_; simp only [kgoal, putsFrom, depsOf, pu0, pu1, pu2, pu3, Nat.zero_add, Nat.reduceAdd, Nat.reduceBEq, Bool.or_false, Bool.false_or, Bool.or_true, Bool.true_or, Bool.false_eq_true, ↓reduceIte, Act.put, List.setIfInBounds_toArray, List.set_cons_zero, List.set_cons_succ]
      simp only [ea, eb, h12]
      rw [if_pos (by rfl)]
      go_simp
      exact hK _ _ (up_alloc _ _) ⟨rfl, by show w1.heap.size < (w1.alloc _).heap.size; simp, _, _, _, _, by show [(x 20).v, (x 22).v] = _; rw [ea, eb], heap_alloc_new w1 _⟩
    · intro x w1 K hU hS hO hd hK
      have h23 : Pair2 w1 (x 23) [(x 20).v, (x 22).v] := kval (hd 23 (by decide)).1 rfl
      have h20 : NumD (Xb) (nb) w1 (x 20).lo (x 20).hi (x 20).v := kval (hd 20 (by decide)).1 rfl
      have h22 : NumD (Xd) (nd) w1 (x 22).lo (x 22).hi (x 22).v := kval (hd 22 (by decide)).1 rfl
      have h12 : (x 12).v = .bool false := kval (hd 12 (by decide)).1 rfl
      obtain ⟨ep, -, b1, v1, b2, v2, ql, hb⟩ := h23
      have ea := (List.cons.inj ql).1
      have eb := (List.cons.inj (List.cons.inj ql).2).1
      rw [ea] at h20
      rw [eb] at h22
      clear hd
      refine Veil.mk ?_; simp only [kgoal, putsFrom, depsOf, pu0, pu1, pu2, pu3, Nat.zero_add, Nat.reduceAdd, Nat.reduceBEq, Bool.or_false, Bool.false_or, Bool.or_true, Bool.true_or, Bool.false_eq_true, ↓reduceIte, Act.put, List.setIfInBounds_toArray, List.set_cons_zero, List.set_cons_succ]
      simp only [ep, h12]
      rw [if_pos (by rfl)]
      go_simp
      refine (add2_rd (M := 1048576) hb (h20.rd (by omega)) (h22.rd (by omega)) (by omega)).mono ?_
      rintro e w2 ⟨v2, rfl, n2, u2⟩
      exact hK _ _ u2 n2
    · intro x w1 K hU hS hO hd hK
      have h18 : NumIn (Xa + Xd) (1048576 + 1) w1 (x 18).lo (x 18).hi (x 18).v := kval (hd 18 (by decide)).1 rfl
      have h24 : NumIn (Xb + Xd) (1048576 + 1) w1 (x 24).lo (x 24).hi (x 24).v := kval (hd 24 (by decide)).1 rfl
      have h12 : (x 12).v = .bool false := kval (hd 12 (by decide)).1 rfl
      clear hd
      refine Veil.mk ?_; simp only [kgoal, putsFrom, depsOf, pu0, pu1, pu2, pu3, Nat.zero_add, Nat.reduceAdd, Nat.reduceBEq, Bool.or_false, Bool.false_or, Bool.or_true, Bool.true_or, Bool.false_eq_true, ↓reduceIte, Act.put, List.setIfInBounds_toArray, List.set_cons_zero, List.set_cons_succ]
      simp only [h12]
      rw [if_pos (by rfl)]
      go_simp
      refine (cmp_rd (M := 1048576 + 1) (h18.rd (by omega)) (h24.rd (by omega))).mono ?_
      rintro e w2 ⟨v2, rfl, n2, u2⟩
      rw [hc3] at n2
      exact hK _ _ u2 n2
    · intro x w1 K hU hS hO hd hK
      have h12 : (x 12).v = .bool false := kval (hd 12 (by decide)).1 rfl
      obtain ⟨k0, k1, -⟩ := cells2 ((Up.tr (up_drew _) (hS.upb rfl)).blk (unhide K3).1)
      clear hd
      refine Veil.mk ?_; simp only [kgoal, putsFrom, depsOf, pu0, pu1, pu2, pu3, Nat.zero_add, Nat.reduceAdd, Nat.reduceBEq, Bool.or_false, Bool.false_or, Bool.or_true, Bool.true_or, Bool.false_eq_true, ↓reduceIte, Act.put, List.setIfInBounds_toArray, List.set_cons_zero, List.set_cons_succ]
      simp only [h12]
      rw [if_pos (by rfl)]
      go_simp
      exact hK _ _ (Up.refl _) rfl
    · intro x w1 K hU hS hO hd hK
      have h26 : (x 26).v = .agg #[.bool ba, .slice aoa na capa] := kval (hd 26 (by decide)).1 rfl
      have h12 : (x 12).v = .bool false := kval (hd 12 (by decide)).1 rfl
      clear hd
      refine Veil.mk ?_; simp only [kgoal, putsFrom, depsOf, pu0, pu1, pu2, pu3, Nat.zero_add, Nat.reduceAdd, Nat.reduceBEq, Bool.or_false, Bool.false_or, Bool.or_true, Bool.true_or, Bool.false_eq_true, ↓reduceIte, Act.put, List.setIfInBounds_toArray, List.set_cons_zero, List.set_cons_succ]
      simp only [h26, h12]
      rw [if_pos (by rfl)]
      go_simp
      refine (c_rd (M := na) (((unhide Ra).up hU)) (by omega)).mono ?_
      rintro e w2 ⟨v2, rfl, n2, u2⟩
      exact hK _ _ u2 n2
    · intro x w1 K hU hS hO hd hK
      have h12 : (x 12).v = .bool false := kval (hd 12 (by decide)).1 rfl
      obtain ⟨k0, k1, -⟩ := cells2 ((Up.tr (up_drew _) (hS.upb rfl)).blk (unhide K3).2.1)
      clear hd
      refine Veil.mk ?_; simp only [kgoal, putsFrom, depsOf, pu0, pu1, pu2, pu3, Nat.zero_add, Nat.reduceAdd, Nat.reduceBEq, Bool.or_false, Bool.false_or, Bool.or_true, Bool.true_or, Bool.false_eq_true, ↓reduceIte, Act.put, List.setIfInBounds_toArray, List.set_cons_zero, List.set_cons_succ]
      simp only [h12]
      rw [if_pos (by rfl)]
      go_simp
      exact hK _ _ (Up.refl _) rfl
    · intro x w1 K hU hS hO hd hK
      have h28 : (x 28).v = .agg #[.bool bb, .slice aob nb capb] := kval (hd 28 (by decide)).1 rfl
      have h12 : (x 12).v = .bool false := kval (hd 12 (by decide)).1 rfl
      clear hd
      refine Veil.mk ?_; simp only [kgoal, putsFrom, depsOf, pu0, pu1, pu2, pu3, Nat.zero_add, Nat.reduceAdd, Nat.reduceBEq, Bool.or_false, Bool.false_or, Bool.or_true, Bool.true_or, Bool.false_eq_true, ↓reduceIte, Act.put, List.setIfInBounds_toArray, List.set_cons_zero, List.set_cons_succ]
      simp only [h28, h12]
      rw [if_pos (by rfl)]
      go_simp
      refine (c_rd (M := nb) (((unhide Rb).up hU)) (by omega)).mono ?_
      rintro e w2 ⟨v2, rfl, n2, u2⟩
      exact hK _ _ u2 n2
    · intro x w1 K hU hS hO hd hK
      have h27 : NumD (Xa) (na) w1 (x 27).lo (x 27).hi (x 27).v := kval (hd 27 (by decide)).1 rfl
      have h29 : NumD (Xb) (nb) w1 (x 29).lo (x 29).hi (x 29).v := kval (hd 29 (by decide)).1 rfl
      have h12 : (x 12).v = .bool false := kval (hd 12 (by decide)).1 rfl
      clear hd
      refine Veil.mk ?_; simp only [kgoal, putsFrom, depsOf, pu0, pu1, pu2, pu3, Nat.zero_add, Nat.reduceAdd, Nat.reduceBEq, Bool.or_false, Bool.false_or, Bool.or_true, Bool.true_or, Bool.false_eq_true, ↓reduceIte, Act.put, List.setIfInBounds_toArray, List.set_cons_zero, List.set_cons_succ]
      simp only [h12]
      rw [if_pos (by rfl)]
      go_simp
      refine (cmp_rd (M := 1048576) (h27.rd (by omega)) (h29.rd (by omega))).mono ?_
      rintro e w2 ⟨v2, rfl, n2, u2⟩
      rw [hc1] at n2
      exact hK _ _ u2 n2
    · intro x w1 K hU hS hO hd hK
      have h25 : (x 25).v = .int .i64 (-1) := kval (hd 25 (by decide)).1 rfl
      have h30 : (x 30).v = .int .i64 (-1) := kval (hd 30 (by decide)).1 rfl
      have h12 : (x 12).v = .bool false := kval (hd 12 (by decide)).1 rfl
      clear hd
      refine Veil.mk ?_; simp only [kgoal, putsFrom, depsOf, pu0, pu1, pu2, pu3, Nat.zero_add, Nat.reduceAdd, Nat.reduceBEq, Bool.or_false, Bool.false_or, Bool.or_true, Bool.true_or, Bool.false_eq_true, ↓reduceIte, Act.put, List.setIfInBounds_toArray, List.set_cons_zero, List.set_cons_succ]
      simp only [h25, h30, h12]
      rw [if_pos (by rfl)]
      go_simp
      exact hK _ _ (Up.refl _) rfl
    · intro x w1 K hU hS hO hd hK
      have h12 : (x 12).v = .bool false := kval (hd 12 (by decide)).1 rfl
      have h31 : (x 31).v = .bool false := kval (hd 31 (by decide)).1 rfl
      clear hd
      refine Veil.mk ?_; simp only [kgoal, putsFrom, depsOf, pu0, pu1, pu2, pu3, Nat.zero_add, Nat.reduceAdd, Nat.reduceBEq, Bool.or_false, Bool.false_or, Bool.or_true, Bool.true_or, Bool.false_eq_true, ↓reduceIte, Act.put, List.setIfInBounds_toArray, List.set_cons_zero, List.set_cons_succ]
      simp only [h12, h31]
      go_simp
      exact hK _ _ (Up.refl _) rfl
    intro x w1 hU hS hR hlo hdis
    have hfin : (x 32).v = .bool false := kval (hR 32 (by decide)) rfl
    have hG := Up.tr (up_drew _) (hS.upb rfl)
    refine Veil.mk ?_; simp only [kgoal, putsFrom, depsOf, pu0, pu1, pu2, pu3, Nat.zero_add, Nat.reduceAdd, Nat.reduceBEq, Bool.or_false, Bool.false_or, Bool.or_true, Bool.true_or, Bool.false_eq_true, ↓reduceIte, Act.put, List.setIfInBounds_toArray, List.set_cons_zero, List.set_cons_succ]
    rw [hfin]
    generalize (x 0).v = z0u
    generalize (x 1).v = z1u
    generalize (x 2).v = z2u
    generalize (x 3).v = z3u
    generalize (x 4).v = z4u
    generalize (x 5).v = z5u
    generalize (x 6).v = z6u
    generalize (x 7).v = z7u
    generalize (x 8).v = z8u
    generalize (x 9).v = z9u
    generalize (x 10).v = z10u
    generalize (x 11).v = z11u
    generalize (x 12).v = z12u
    generalize (x 13).v = z13u
    generalize (x 14).v = z14u
    generalize (x 15).v = z15u
    generalize (x 16).v = z16u
    generalize (x 17).v = z17u
    generalize (x 18).v = z18u
    generalize (x 19).v = z19u
    generalize (x 20).v = z20u
    generalize (x 21).v = z21u
    generalize (x 22).v = z22u
    generalize (x 23).v = z23u
    generalize (x 24).v = z24u
    generalize (x 25).v = z25u
    generalize (x 26).v = z26u
    generalize (x 27).v = z27u
    generalize (x 28).v = z28u
    generalize (x 29).v = z29u
    generalize (x 30).v = z30u
    generalize (x 31).v = z31u
    clear hR hlo hdis hS hfin
    have B1 := hG
    have U1 := hU
    clear hG hU hc1 hc2 hc3
    go_wp2_with fail
    refine wp_region_knd (by kernel_rfl) w U1 [[], [0], [], [2], [3], [1, 4], [5, 1, 4], [], [7, 6]] [.val [] (fun _ g _ => g.v = .agg #[.bool ba, .slice aoa na capa]), .val [] (fun w g _ => NumD (Xa) (na) w g.lo g.hi g.v), .val [] (fun _ g _ => g.v = .agg #[.bool ba, .slice aoa na capa]), .val [] (fun w g _ => NumD (Xa) (na) w g.lo g.hi g.v), .val [] (fun w g _ => NumIn (-(Xa)) (na) w g.lo g.hi g.v), .val [1, 4] (fun w g vs => Pair2 w g vs), .val [] (fun w g _ => NumIn (Xa + (-(Xa))) (1048576 + 1) w g.lo g.hi g.v), .box 26 2, .sto 7 6 26 2] (by kernel_rfl) (by kernel_rfl) rfl ⟨trivial, trivial, trivial, trivial, trivial, trivial, trivial, trivial, trivial, trivial⟩ ⟨fun _ _ _ _ _ h => h, fun _ _ _ _ hb h => h.keep hb, fun _ _ _ _ _ h => h, fun _ _ _ _ hb h => h.keep hb, fun _ _ _ _ hb h => h.keep hb, fun _ _ _ _ hb h => h.keep hb, fun _ _ _ _ hb h => h.keep hb, trivial, trivial, trivial⟩ ⟨?_, ?_, ?_, ?_, ?_, ?_, ?_, ?_, ?_, trivial⟩ ?_
    · intro x w1 K hU hS hO hd hK
      obtain ⟨k0, k1, -⟩ := cells2 ((B1.tr (Up.tr (up_drew _) (hS.upb rfl))).blk (unhide K3).1)
      clear hd
      refine Veil.mk ?_; simp only [kgoal, putsFrom, depsOf, pu0, pu1, pu2, pu3, Nat.zero_add, Nat.reduceAdd, Nat.reduceBEq, Bool.or_false, Bool.false_or, Bool.or_true, Bool.true_or, Bool.false_eq_true, ↓reduceIte, Act.put, List.setIfInBounds_toArray, List.set_cons_zero, List.set_cons_succ]
      go_simp
      exact hK _ _ (Up.refl _) rfl
    · intro x w1 K hU hS hO hd hK
      have h0 : (x 0).v = .agg #[.bool ba, .slice aoa na capa] := kval (hd 0 (by decide)).1 rfl
      clear hd
      refine Veil.mk ?_; simp only [kgoal, putsFrom, depsOf, pu0, pu1, pu2, pu3, Nat.zero_add, Nat.reduceAdd, Nat.reduceBEq, Bool.or_false, Bool.false_or, Bool.or_true, Bool.true_or, Bool.false_eq_true, ↓reduceIte, Act.put, List.setIfInBounds_toArray, List.set_cons_zero, List.set_cons_succ]
      simp only [h0]
      go_simp
      refine (c_rd (M := na) (((unhide Ra).up hU)) (by omega)).mono ?_
      rintro e w2 ⟨v2, rfl, n2, u2⟩
      exact hK _ _ u2 n2
    · intro x w1 K hU hS hO hd hK
      obtain ⟨k0, k1, -⟩ := cells2 ((B1.tr (Up.tr (up_drew _) (hS.upb rfl))).blk (unhide K3).1)
      clear hd
      refine Veil.mk ?_; simp only [kgoal, putsFrom, depsOf, pu0, pu1, pu2, pu3, Nat.zero_add, Nat.reduceAdd, Nat.reduceBEq, Bool.or_false, Bool.false_or, Bool.or_true, Bool.true_or, Bool.false_eq_true, ↓reduceIte, Act.put, List.setIfInBounds_toArray, List.set_cons_zero, List.set_cons_succ]
      go_simp
      exact hK _ _ (Up.refl _) rfl
    · intro x w1 K hU hS hO hd hK
      have h2 : (x 2).v = .agg #[.bool ba, .slice aoa na capa] := kval (hd 2 (by decide)).1 rfl
      clear hd
      refine Veil.mk ?_; simp only [kgoal, putsFrom, depsOf, pu0, pu1, pu2, pu3, Nat.zero_add, Nat.reduceAdd, Nat.reduceBEq, Bool.or_false, Bool.false_or, Bool.or_true, Bool.true_or, Bool.false_eq_true, ↓reduceIte, Act.put, List.setIfInBounds_toArray, List.set_cons_zero, List.set_cons_succ]
      simp only [h2]
      go_simp
      refine (c_rd (M := na) (((unhide Ra).up hU)) (by omega)).mono ?_
      rintro e w2 ⟨v2, rfl, n2, u2⟩
      exact hK _ _ u2 n2
    · intro x w1 K hU hS hO hd hK
      have h3 : NumD (Xa) (na) w1 (x 3).lo (x 3).hi (x 3).v := kval (hd 3 (by decide)).1 rfl
      clear hd
      refine Veil.mk ?_; simp only [kgoal, putsFrom, depsOf, pu0, pu1, pu2, pu3, Nat.zero_add, Nat.reduceAdd, Nat.reduceBEq, Bool.or_false, Bool.false_or, Bool.or_true, Bool.true_or, Bool.false_eq_true, ↓reduceIte, Act.put, List.setIfInBounds_toArray, List.set_cons_zero, List.set_cons_succ]
      go_simp
      refine (neg_rd (M := na) (h3.rd (by omega)) (by omega)).mono ?_
      rintro e w2 ⟨v2, rfl, n2, u2⟩
      exact hK _ _ u2 n2
    · intro x w1 K hU hS hO hd hK
      have h1 : NumD (Xa) (na) w1 (x 1).lo (x 1).hi (x 1).v := kval (hd 1 (by decide)).1 rfl
      have h4 : NumIn (-(Xa)) (na) w1 (x 4).lo (x 4).hi (x 4).v := kval (hd 4 (by decide)).1 rfl
      obtain ⟨pa, qa, ra, ta, ea⟩ := (h1.rd (Nat.le_refl _)).agg
      obtain ⟨pb, qb, rb, tb, eb⟩ := (h4.rd (Nat.le_refl _)).agg
      clear hd
      refine Veil.mk ?_; simp only [kgoal, putsFrom, depsOf, pu0, pu1, pu2, pu3, Nat.zero_add, Nat.reduceAdd, Nat.reduceBEq, Bool.or_false, Bool.false_or, Bool.or_true, Bool.true_or, Bool.false_eq_true, ↓reduceIte, Act.put, List.setIfInBounds_toArray, List.set_cons_zero, List.set_cons_succ]
      simp only [ea, eb]
      go_simp
      exact hK _ _ (up_alloc _ _) ⟨rfl, by show w1.heap.size < (w1.alloc _).heap.size; simp, _, _, _, _, by show [(x 1).v, (x 4).v] = _; rw [ea, eb], heap_alloc_new w1 _⟩
    · intro x w1 K hU hS hO hd hK
      have h5 : Pair2 w1 (x 5) [(x 1).v, (x 4).v] := kval (hd 5 (by decide)).1 rfl
      have h1 : NumD (Xa) (na) w1 (x 1).lo (x 1).hi (x 1).v := kval (hd 1 (by decide)).1 rfl
      have h4 : NumIn (-(Xa)) (na) w1 (x 4).lo (x 4).hi (x 4).v := kval (hd 4 (by decide)).1 rfl
      obtain ⟨ep, -, b1, v1, b2, v2, ql, hb⟩ := h5
      have ea := (List.cons.inj ql).1
      have eb := (List.cons.inj (List.cons.inj ql).2).1
      rw [ea] at h1
      rw [eb] at h4
      clear hd
      refine Veil.mk ?_; simp only [kgoal, putsFrom, depsOf, pu0, pu1, pu2, pu3, Nat.zero_add, Nat.reduceAdd, Nat.reduceBEq, Bool.or_false, Bool.false_or, Bool.or_true, Bool.true_or, Bool.false_eq_true, ↓reduceIte, Act.put, List.setIfInBounds_toArray, List.set_cons_zero, List.set_cons_succ]
      simp only [ep]
      go_simp
      refine (add2_rd (M := 1048576) hb (h1.rd (by omega)) (h4.rd (by omega)) (by omega)).mono ?_
      rintro e w2 ⟨v2, rfl, n2, u2⟩
      exact hK _ _ u2 n2
    · intro x w1 K hU hS hO hd hK
      refine Veil.mk ?_; simp only [kgoal, putsFrom, depsOf, pu0, pu1, pu2, pu3, Nat.zero_add, Nat.reduceAdd, Nat.reduceBEq, Bool.or_false, Bool.false_or, Bool.or_true, Bool.true_or, Bool.false_eq_true, ↓reduceIte, Act.put, List.setIfInBounds_toArray, List.set_cons_zero, List.set_cons_succ]
      go_simp
      exact hK _ _ (up_alloc _ _) (box_new rfl hS)
    · intro x w1 K hU hS hO hd hK
      obtain ⟨c0, c1, eb, hb⟩ := kbox2 (hd 7 (by decide)).1 rfl
      have h6 : NumIn (Xa + (-(Xa))) (1048576 + 1) w1 (x 6).lo (x 6).hi (x 6).v := kval (hd 6 (by decide)).1 rfl
      obtain ⟨pa, qa, ra, ta, es⟩ := (h6.rd (Nat.le_refl _)).agg
      clear h6
      obtain ⟨d0, d1, f0, f1, -⟩ := cells2 hb
      clear hd
      refine Veil.mk ?_; simp only [kgoal, putsFrom, depsOf, pu0, pu1, pu2, pu3, Nat.zero_add, Nat.reduceAdd, Nat.reduceBEq, Bool.or_false, Bool.false_or, Bool.or_true, Bool.true_or, Bool.false_eq_true, ↓reduceIte, Act.put, List.setIfInBounds_toArray, List.set_cons_zero, List.set_cons_succ]
      go_simp
      exact hK _ _ (sto_two hb _ _).1 ⟨_, rfl, es, (sto_two hb _ _).2⟩
    intro x w1 hU hS hR hlo hdis
    have hx : NumIn (Xa + (-(Xa))) (1048576 + 1) w1 (x 6).lo (x 6).hi (x 6).v := kval (hR 6 (by decide)) rfl
    obtain ⟨bz, aoz, nz, capz, ex⟩ := (hx.rd (Nat.le_refl _)).agg
    rw [ex] at hx
    obtain ⟨cs, -, q0, Tz⟩ := ksto (hR 8 (by decide)) rfl
    rw [ex] at q0
    cases q0
    obtain ⟨eb, -⟩ := kbox (hR 7 (by decide)) rfl
    obtain ⟨rfl, rfl⟩ := RdC.zero hx.rc (by omega)
    have hG := Up.tr (up_drew _) (hS.upb rfl)
    refine Veil.mk ?_; simp only [kgoal, putsFrom, depsOf, pu0, pu1, pu2, pu3, Nat.zero_add, Nat.reduceAdd, Nat.reduceBEq, Bool.or_false, Bool.false_or, Bool.or_true, Bool.true_or, Bool.false_eq_true, ↓reduceIte, Act.put, List.setIfInBounds_toArray, List.set_cons_zero, List.set_cons_succ]
    rw [eb]
    generalize (x 0).v = y0z at *
    generalize (x 1).v = y1z at *
    generalize (x 2).v = y2z at *
    generalize (x 3).v = y3z at *
    generalize (x 4).v = y4z at *
    generalize (x 5).v = y5z at *
    generalize (x 6).v = y6z at *
    generalize (x 7).lo = gz at *
    have U2 := hU
    have B2 := B1.tr hG
    clear hR hlo hdis hS hx ex eb hG hU B1 U1
    obtain ⟨c0, c1, -⟩ := cells2 (B2.blk (unhide K3).1)
    go_wp2_with fail
    refine (c_rd (M := na) ((unhide Ra).up U2) (by omega)).mono ?_
    rintro e w5 ⟨v5, rfl, n5, u5⟩
    obtain ⟨b5, ao5, m5, cap5, es⟩ := (n5.rd (Nat.le_refl _)).agg
    subst es
    have N5 := hide (n5.rd (Nat.le_refl _))
    clear n5
    go_wp2_with fail
    refine (text_rd (unhide N5) (by omega) ((unhide HT).up (U2.tr u5))).mono ?_
    rintro e w6 ⟨s6, rfl, u6, l6, t6⟩
    have H6 := hide t6
    clear t6
    go_wp2_with fail
    refine (parse_rd s6 Xa 18874400 w6 (unhide H6) (by omega) (by omega)).mono ?_
    rintro e w7 ⟨v7, rfl, n7, u7⟩
    obtain ⟨bp, aop, np, capp, es⟩ := (n7.rd (Nat.le_refl _)).agg
    subst es
    have D7 := ((u5.tr u6).tr u7).tr (up_alloc w7 (.cells #[.bool bp, .slice aop np capp] 26))
    have Tp : (w7.alloc (.cells #[.bool bp, .slice aop np capp] 26)).heap[w7.heap.size]? = some (.cells #[.bool bp, .slice aop np capp] 26 (0, 0)) := heap_alloc_new w7 _
    have Cp := hide (n7.rc.up (up_alloc w7 (.cells #[.bool bp, .slice aop np capp] 26)))
    replace Tz := D7.blk Tz
    have U3 := U2.tr D7
    have B3 := B2.tr D7
    clear n7 u5 u6 u7 D7 U2 B2 c0 c1 N5 H6 l6
    go_wp2_with fail
    refine wp_region_knd (by kernel_rfl) w U3 [[], [0], [1], [2], [3], [4], [5, 4], [6, 4], [4, 7], [8], [9], [9, 10], [11], [12], [12], [14, 12], [13, 15, 12], [16, 12], [12, 17], [18], [19], [19], [21, 19], [22, 19], [23, 22, 19], [20, 24, 19], [19, 25], [26], [27], [27, 28], [29]] (Knd.val [] (fun _ g _ => g.v = .pointer (some ⟨gz, 1, none⟩)) :: Knd.val [] (fun _ g _ => g.v = .slice aoz 0 capz) :: Knd.val [] (fun _ g _ => g.v = .int .i64 0) :: Knd.val [] (fun _ g _ => g.v = .bool true) :: Knd.val [] (fun _ g _ => g.v = .bool true) :: Knd.val [] (fun _ g _ => g.v = .pointer (some ⟨gz, 0, none⟩)) :: Knd.val [] (fun _ g _ => g.v = .bool false) :: Knd.val [] (fun _ g _ => g.v = .bool true) :: Knd.val [] (fun _ g _ => g.v = .bool true) :: Knd.val [] (fun _ g _ => g.v = .bool true) :: Knd.val [] (fun _ g _ => g.v = .bool true) :: Knd.val [] (fun _ g _ => g.v = .bool true) :: Knd.val [] (fun _ g _ => g.v = .bool true) :: Knd.val [] (fun _ g _ => g.v = .agg #[.bool bp, .slice aop np capp]) :: Knd.val [] (fun _ g _ => g.v = .agg #[.bool ba, .slice aoa na capa]) :: Knd.val [] (fun w g _ => NumD (Xa) (na) w g.lo g.hi g.v) :: Knd.val [] (fun _ g _ => g.v = .int .i64 (0)) :: Knd.val [] (fun _ g _ => g.v = .bool true) :: Knd.val [] (fun _ g _ => g.v = .bool true) :: Knd.val [] (fun _ g _ => g.v = .bool true) :: Knd.val [] (fun _ g _ => g.v = .agg #[.bool bp, .slice aop np capp]) :: Knd.val [] (fun _ g _ => g.v = .agg #[.bool ba, .slice aoa na capa]) :: Knd.val [] (fun w g _ => NumD (Xa) (na) w g.lo g.hi g.v) :: Knd.val [22] (fun w g vs => Pair1 w g vs) :: Knd.val [] (fun w g _ => NumIn (Xa) (na + 1) w g.lo g.hi g.v) :: Knd.val [] (fun _ g _ => g.v = .bool true) :: Knd.val [] (fun _ g _ => g.v = .bool true) :: Knd.val [] (fun _ g _ => g.v = .bool true) :: Knd.val [] (fun _ g _ => g.v = .bool true) :: Knd.val [] (fun _ g _ => g.v = .bool true) :: Knd.val [] (fun _ g _ => g.v = .bool true) :: []) (by kernel_rfl) (by kernel_rfl) rfl ⟨trivial, trivial, trivial, trivial, trivial, trivial, trivial, trivial, trivial, trivial, trivial, trivial, trivial, trivial, trivial, trivial, trivial, trivial, trivial, trivial, trivial, trivial, trivial, trivial, trivial, trivial, trivial, trivial, trivial, trivial, trivial, trivial⟩ ⟨fun _ _ _ _ _ h => h, fun _ _ _ _ _ h => h, fun _ _ _ _ _ h => h, fun _ _ _ _ _ h => h, fun _ _ _ _ _ h => h, fun _ _ _ _ _ h => h, fun _ _ _ _ _ h => h, fun _ _ _ _ _ h => h, fun _ _ _ _ _ h => h, fun _ _ _ _ _ h => h, fun _ _ _ _ _ h => h, fun _ _ _ _ _ h => h, fun _ _ _ _ _ h => h, fun _ _ _ _ _ h => h, fun _ _ _ _ _ h => h, fun _ _ _ _ hb h => h.keep hb, fun _ _ _ _ _ h => h, fun _ _ _ _ _ h => h, fun _ _ _ _ _ h => h, fun _ _ _ _ _ h => h, fun _ _ _ _ _ h => h, fun _ _ _ _ _ h => h, fun _ _ _ _ hb h => h.keep hb, fun _ _ _ _ hb h => h.keep hb, fun _ _ _ _ hb h => h.keep hb, fun _ _ _ _ _ h => h, fun _ _ _ _ _ h => h, fun _ _ _ _ _ h => h, fun _ _ _ _ _ h => h, fun _ _ _ _ _ h => h, fun _ _ _ _ _ h => h, trivial⟩ ⟨?_, ?_, ?_, ?_, ?_, ?_, ?_, ?_, ?_, ?_, ?_, ?_, ?_, ?_, ?_, ?_, ?_, ?_, ?_, ?_, ?_, ?_, ?_, ?_, ?_, ?_, ?_, ?_, ?_, ?_, ?_, trivial⟩ ?_
    · intro x w1 K hU hS hO hd hK
      clear hd
      refine Veil.mk ?_; simp only [kgoal, putsFrom, depsOf, pu0, pu1, pu2, pu3, Nat.zero_add, Nat.reduceAdd, Nat.reduceBEq, Bool.or_false, Bool.false_or, Bool.or_true, Bool.true_or, Bool.false_eq_true, ↓reduceIte, Act.put, List.setIfInBounds_toArray, List.set_cons_zero, List.set_cons_succ]
      go_simp
      exact hK _ _ (Up.refl _) rfl
    · intro x w1 K hU hS hO hd hK
      have h0 : (x 0).v = .pointer (some ⟨gz, 1, none⟩) := kval (hd 0 (by decide)).1 rfl
      obtain ⟨k0, k1, -⟩ := cells2 ((Up.tr (up_drew _) (hS.upb rfl)).blk Tz)
      clear hd
      refine Veil.mk ?_; simp only [kgoal, putsFrom, depsOf, pu0, pu1, pu2, pu3, Nat.zero_add, Nat.reduceAdd, Nat.reduceBEq, Bool.or_false, Bool.false_or, Bool.or_true, Bool.true_or, Bool.false_eq_true, ↓reduceIte, Act.put, List.setIfInBounds_toArray, List.set_cons_zero, List.set_cons_succ]
      simp only [h0]
      go_simp
      exact hK _ _ (Up.refl _) rfl
    · intro x w1 K hU hS hO hd hK
      have h1 : (x 1).v = .slice aoz 0 capz := kval (hd 1 (by decide)).1 rfl
      clear hd
      refine Veil.mk ?_; simp only [kgoal, putsFrom, depsOf, pu0, pu1, pu2, pu3, Nat.zero_add, Nat.reduceAdd, Nat.reduceBEq, Bool.or_false, Bool.false_or, Bool.or_true, Bool.true_or, Bool.false_eq_true, ↓reduceIte, Act.put, List.setIfInBounds_toArray, List.set_cons_zero, List.set_cons_succ]
      simp only [h1]
      go_simp
      exact hK _ _ (Up.refl _) rfl
    · intro x w1 K hU hS hO hd hK
      have h2 : (x 2).v = .int .i64 0 := kval (hd 2 (by decide)).1 rfl
      clear hd
      refine Veil.mk ?_; simp only [kgoal, putsFrom, depsOf, pu0, pu1, pu2, pu3, Nat.zero_add, Nat.reduceAdd, Nat.reduceBEq, Bool.or_false, Bool.false_or, Bool.or_true, Bool.true_or, Bool.false_eq_true, ↓reduceIte, Act.put, List.setIfInBounds_toArray, List.set_cons_zero, List.set_cons_succ]
      simp only [h2]
      go_simp
      exact hK _ _ (Up.refl _) rfl
    · intro x w1 K hU hS hO hd hK
      have h3 : (x 3).v = .bool true := kval (hd 3 (by decide)).1 rfl
      clear hd
      refine Veil.mk ?_; simp only [kgoal, putsFrom, depsOf, pu0, pu1, pu2, pu3, Nat.zero_add, Nat.reduceAdd, Nat.reduceBEq, Bool.or_false, Bool.false_or, Bool.or_true, Bool.true_or, Bool.false_eq_true, ↓reduceIte, Act.put, List.setIfInBounds_toArray, List.set_cons_zero, List.set_cons_succ]
      simp only [h3]
      go_simp
      exact hK _ _ (Up.refl _) rfl
    · intro x w1 K hU hS hO hd hK
      have h4 : (x 4).v = .bool true := kval (hd 4 (by decide)).1 rfl
      clear hd
      refine Veil.mk ?_; simp only [kgoal, putsFrom, depsOf, pu0, pu1, pu2, pu3, Nat.zero_add, Nat.reduceAdd, Nat.reduceBEq, Bool.or_false, Bool.false_or, Bool.or_true, Bool.true_or, Bool.false_eq_true, ↓reduceIte, Act.put, List.setIfInBounds_toArray, List.set_cons_zero, List.set_cons_succ]
      simp only [h4]
      rw [if_pos (by rfl)]
      go_simp
      exact hK _ _ (Up.refl _) rfl
    · intro x w1 K hU hS hO hd hK
      have h5 : (x 5).v = .pointer (some ⟨gz, 0, none⟩) := kval (hd 5 (by decide)).1 rfl
      have h4 : (x 4).v = .bool true := kval (hd 4 (by decide)).1 rfl
      obtain ⟨k0, k1, -⟩ := cells2 ((Up.tr (up_drew _) (hS.upb rfl)).blk Tz)
      clear hd
      refine Veil.mk ?_; simp only [kgoal, putsFrom, depsOf, pu0, pu1, pu2, pu3, Nat.zero_add, Nat.reduceAdd, Nat.reduceBEq, Bool.or_false, Bool.false_or, Bool.or_true, Bool.true_or, Bool.false_eq_true, ↓reduceIte, Act.put, List.setIfInBounds_toArray, List.set_cons_zero, List.set_cons_succ]
      simp only [h5, h4]
      rw [if_pos (by rfl)]
      go_simp
      exact hK _ _ (Up.refl _) rfl
    · intro x w1 K hU hS hO hd hK
      have h6 : (x 6).v = .bool false := kval (hd 6 (by decide)).1 rfl
      have h4 : (x 4).v = .bool true := kval (hd 4 (by decide)).1 rfl
      clear hd
      refine Veil.mk ?_; simp only [kgoal, putsFrom, depsOf, pu0, pu1, pu2, pu3, Nat.zero_add, Nat.reduceAdd, Nat.reduceBEq, Bool.or_false, Bool.false_or, Bool.or_true, Bool.true_or, Bool.false_eq_true, ↓reduceIte, Act.put, List.setIfInBounds_toArray, List.set_cons_zero, List.set_cons_succ]
      simp only [h6, h4]
      rw [if_pos (by rfl)]
      go_simp
      exact hK _ _ (Up.refl _) rfl
    · intro x w1 K hU hS hO hd hK
      have h4 : (x 4).v = .bool true := kval (hd 4 (by decide)).1 rfl
      have h7 : (x 7).v = .bool true := kval (hd 7 (by decide)).1 rfl
      clear hd
      refine Veil.mk ?_; simp only [kgoal, putsFrom, depsOf, pu0, pu1, pu2, pu3, Nat.zero_add, Nat.reduceAdd, Nat.reduceBEq, Bool.or_false, Bool.false_or, Bool.or_true, Bool.true_or, Bool.false_eq_true, ↓reduceIte, Act.put, List.setIfInBounds_toArray, List.set_cons_zero, List.set_cons_succ]
      simp only [h4, h7]
      go_simp
      exact hK _ _ (Up.refl _) rfl
    · intro x w1 K hU hS hO hd hK
      have h8 : (x 8).v = .bool true := kval (hd 8 (by decide)).1 rfl
      clear hd
      refine Veil.mk ?_; simp only [kgoal, putsFrom, depsOf, pu0, pu1, pu2, pu3, Nat.zero_add, Nat.reduceAdd, Nat.reduceBEq, Bool.or_false, Bool.false_or, Bool.or_true, Bool.true_or, Bool.false_eq_true, ↓reduceIte, Act.put, List.setIfInBounds_toArray, List.set_cons_zero, List.set_cons_succ]
      simp only [h8]
      go_simp
      exact hK _ _ (Up.refl _) rfl
    · intro x w1 K hU hS hO hd hK
      have h9 : (x 9).v = .bool true := kval (hd 9 (by decide)).1 rfl
      clear hd
      refine Veil.mk ?_; simp only [kgoal, putsFrom, depsOf, pu0, pu1, pu2, pu3, Nat.zero_add, Nat.reduceAdd, Nat.reduceBEq, Bool.or_false, Bool.false_or, Bool.or_true, Bool.true_or, Bool.false_eq_true, ↓reduceIte, Act.put, List.setIfInBounds_toArray, List.set_cons_zero, List.set_cons_succ]
      simp only [h9]
      rw [if_pos (by rfl)]
      go_simp
      exact hK _ _ (Up.refl _) rfl
    · intro x w1 K hU hS hO hd hK
      have h9 : (x 9).v = .bool true := kval (hd 9 (by decide)).1 rfl
      have h10 : (x 10).v = .bool true := kval (hd 10 (by decide)).1 rfl
      clear hd
      refine Veil.mk ?_; simp only [kgoal, putsFrom, depsOf, pu0, pu1, pu2, pu3, Nat.zero_add, Nat.reduceAdd, Nat.reduceBEq, Bool.or_false, Bool.false_or, Bool.or_true, Bool.true_or, Bool.false_eq_true, ↓reduceIte, Act.put, List.setIfInBounds_toArray, List.set_cons_zero, List.set_cons_succ]
      simp only [h9, h10]
      go_simp
      exact hK _ _ (Up.refl _) rfl
    · intro x w1 K hU hS hO hd hK
      have h11 : (x 11).v = .bool true := kval (hd 11 (by decide)).1 rfl
      clear hd
      refine Veil.mk ?_; simp only [kgoal, putsFrom, depsOf, pu0, pu1, pu2, pu3, Nat.zero_add, Nat.reduceAdd, Nat.reduceBEq, Bool.or_false, Bool.false_or, Bool.or_true, Bool.true_or, Bool.false_eq_true, ↓reduceIte, Act.put, List.setIfInBounds_toArray, List.set_cons_zero, List.set_cons_succ]
      simp only [h11]
      go_simp
      exact hK _ _ (Up.refl _) rfl
    · intro x w1 K hU hS hO hd hK
      have h12 : (x 12).v = .bool true := kval (hd 12 (by decide)).1 rfl
      obtain ⟨k0, k1, -⟩ := cells2 ((Up.tr (up_drew _) (hS.upb rfl)).blk Tp)
      clear hd
      refine Veil.mk ?_; simp only [kgoal, putsFrom, depsOf, pu0, pu1, pu2, pu3, Nat.zero_add, Nat.reduceAdd, Nat.reduceBEq, Bool.or_false, Bool.false_or, Bool.or_true, Bool.true_or, Bool.false_eq_true, ↓reduceIte, Act.put, List.setIfInBounds_toArray, List.set_cons_zero, List.set_cons_succ]
      simp only [h12]
      rw [if_pos (by rfl)]
      go_simp
      exact hK _ _ (Up.refl _) rfl
    · intro x w1 K hU hS hO hd hK
      have h12 : (x 12).v = .bool true := kval (hd 12 (by decide)).1 rfl
      obtain ⟨k0, k1, -⟩ := cells2 ((B3.tr (Up.tr (up_drew _) (hS.upb rfl))).blk (unhide K3).1)
      clear hd
      refine Veil.mk ?_; simp only [kgoal, putsFrom, depsOf, pu0, pu1, pu2, pu3, Nat.zero_add, Nat.reduceAdd, Nat.reduceBEq, Bool.or_false, Bool.false_or, Bool.or_true, Bool.true_or, Bool.false_eq_true, ↓reduceIte, Act.put, List.setIfInBounds_toArray, List.set_cons_zero, List.set_cons_succ]
      simp only [h12]
      rw [if_pos (by rfl)]
      go_simp
      exact hK _ _ (Up.refl _) rfl
    · intro x w1 K hU hS hO hd hK
      have h14 : (x 14).v = .agg #[.bool ba, .slice aoa na capa] := kval (hd 14 (by decide)).1 rfl
      have h12 : (x 12).v = .bool true := kval (hd 12 (by decide)).1 rfl
      clear hd
      refine Veil.mk ?_; simp only [kgoal, putsFrom, depsOf, pu0, pu1, pu2, pu3, Nat.zero_add, Nat.reduceAdd, Nat.reduceBEq, Bool.or_false, Bool.false_or, Bool.or_true, Bool.true_or, Bool.false_eq_true, ↓reduceIte, Act.put, List.setIfInBounds_toArray, List.set_cons_zero, List.set_cons_succ]
      simp only [h14, h12]
      rw [if_pos (by rfl)]
      go_simp
      refine (c_rd (M := na) (((unhide Ra).up hU)) (by omega)).mono ?_
      rintro e w2 ⟨v2, rfl, n2, u2⟩
      exact hK _ _ u2 n2
    · intro x w1 K hU hS hO hd hK
      have h13 : (x 13).v = .agg #[.bool bp, .slice aop np capp] := kval (hd 13 (by decide)).1 rfl
      have h15 : NumD (Xa) (na) w1 (x 15).lo (x 15).hi (x 15).v := kval (hd 15 (by decide)).1 rfl
      have h12 : (x 12).v = .bool true := kval (hd 12 (by decide)).1 rfl
      clear hd
      refine Veil.mk ?_; simp only [kgoal, putsFrom, depsOf, pu0, pu1, pu2, pu3, Nat.zero_add, Nat.reduceAdd, Nat.reduceBEq, Bool.or_false, Bool.false_or, Bool.or_true, Bool.true_or, Bool.false_eq_true, ↓reduceIte, Act.put, List.setIfInBounds_toArray, List.set_cons_zero, List.set_cons_succ]
      simp only [h13, h12]
      rw [if_pos (by rfl)]
      go_simp
      refine (cmp_rd (M := 18874400) (((unhide Cp).rd (M' := 18874400) (by omega)).up (Up.tr (up_drew _) (hS.upb rfl))) (h15.rd (by omega))).mono ?_
      rintro e w2 ⟨v2, rfl, n2, u2⟩
      rw [cmpZ_self] at n2
      exact hK _ _ u2 n2
    · intro x w1 K hU hS hO hd hK
      have h16 : (x 16).v = .int .i64 (0) := kval (hd 16 (by decide)).1 rfl
      have h12 : (x 12).v = .bool true := kval (hd 12 (by decide)).1 rfl
      clear hd
      refine Veil.mk ?_; simp only [kgoal, putsFrom, depsOf, pu0, pu1, pu2, pu3, Nat.zero_add, Nat.reduceAdd, Nat.reduceBEq, Bool.or_false, Bool.false_or, Bool.or_true, Bool.true_or, Bool.false_eq_true, ↓reduceIte, Act.put, List.setIfInBounds_toArray, List.set_cons_zero, List.set_cons_succ]
      simp only [h16, h12]
      rw [if_pos (by rfl)]
      go_simp
      exact hK _ _ (Up.refl _) rfl
    · intro x w1 K hU hS hO hd hK
      have h12 : (x 12).v = .bool true := kval (hd 12 (by decide)).1 rfl
      have h17 : (x 17).v = .bool true := kval (hd 17 (by decide)).1 rfl
      clear hd
      refine Veil.mk ?_; simp only [kgoal, putsFrom, depsOf, pu0, pu1, pu2, pu3, Nat.zero_add, Nat.reduceAdd, Nat.reduceBEq, Bool.or_false, Bool.false_or, Bool.or_true, Bool.true_or, Bool.false_eq_true, ↓reduceIte, Act.put, List.setIfInBounds_toArray, List.set_cons_zero, List.set_cons_succ]
      simp only [h12, h17]
      go_simp
      exact hK _ _ (Up.refl _) rfl
    · intro x w1 K hU hS hO hd hK
      have h18 : (x 18).v = .bool true := kval (hd 18 (by decide)).1 rfl
      clear hd
      refine Veil.mk ?_; simp only [kgoal, putsFrom, depsOf, pu0, pu1, pu2, pu3, Nat.zero_add, Nat.reduceAdd, Nat.reduceBEq, Bool.or_false, Bool.false_or, Bool.or_true, Bool.true_or, Bool.false_eq_true, ↓reduceIte, Act.put, List.setIfInBounds_toArray, List.set_cons_zero, List.set_cons_succ]
      simp only [h18]
      go_simp
      exact hK _ _ (Up.refl _) rfl
    · intro x w1 K hU hS hO hd hK
      have h19 : (x 19).v = .bool true := kval (hd 19 (by decide)).1 rfl
      obtain ⟨k0, k1, -⟩ := cells2 ((Up.tr (up_drew _) (hS.upb rfl)).blk Tp)
      clear hd
      refine Veil.mk ?_; simp only [kgoal, putsFrom, depsOf, pu0, pu1, pu2, pu3, Nat.zero_add, Nat.reduceAdd, Nat.reduceBEq, Bool.or_false, Bool.false_or, Bool.or_true, Bool.true_or, Bool.false_eq_true, ↓reduceIte, Act.put, List.setIfInBounds_toArray, List.set_cons_zero, List.set_cons_succ]
      simp only [h19]
      rw [if_pos (by rfl)]
      go_simp
      exact hK _ _ (Up.refl _) rfl
    · intro x w1 K hU hS hO hd hK
      have h19 : (x 19).v = .bool true := kval (hd 19 (by decide)).1 rfl
      obtain ⟨k0, k1, -⟩ := cells2 ((B3.tr (Up.tr (up_drew _) (hS.upb rfl))).blk (unhide K3).1)
      clear hd
      refine Veil.mk ?_; simp only [kgoal, putsFrom, depsOf, pu0, pu1, pu2, pu3, Nat.zero_add, Nat.reduceAdd, Nat.reduceBEq, Bool.or_false, Bool.false_or, Bool.or_true, Bool.true_or, Bool.false_eq_true, ↓reduceIte, Act.put, List.setIfInBounds_toArray, List.set_cons_zero, List.set_cons_succ]
      simp only [h19]
      rw [if_pos (by rfl)]
      go_simp
      exact hK _ _ (Up.refl _) rfl
    · intro x w1 K hU hS hO hd hK
      have h21 : (x 21).v = .agg #[.bool ba, .slice aoa na capa] := kval (hd 21 (by decide)).1 rfl
      have h19 : (x 19).v = .bool true := kval (hd 19 (by decide)).1 rfl
      clear hd
      refine Veil.mk ?_; simp only [kgoal, putsFrom, depsOf, pu0, pu1, pu2, pu3, Nat.zero_add, Nat.reduceAdd, Nat.reduceBEq, Bool.or_false, Bool.false_or, Bool.or_true, Bool.true_or, Bool.false_eq_true, ↓reduceIte, Act.put, List.setIfInBounds_toArray, List.set_cons_zero, List.set_cons_succ]
      simp only [h21, h19]
      rw [if_pos (by rfl)]
      go_simp
      refine (c_rd (M := na) (((unhide Ra).up hU)) (by omega)).mono ?_
      rintro e w2 ⟨v2, rfl, n2, u2⟩
      exact hK _ _ u2 n2
    · intro x w1 K hU hS hO hd hK
      have h22 : NumD (Xa) (na) w1 (x 22).lo (x 22).hi (x 22).v := kval (hd 22 (by decide)).1 rfl
      have h19 : (x 19).v = .bool true := kval (hd 19 (by decide)).1 rfl
      obtain ⟨pa, qa, ra, ta, ea⟩ := (h22.rd (Nat.le_refl _)).agg
      clear hd
      refine Veil.mk ?_; simp only [kgoal, putsFrom, depsOf, pu0, pu1, pu2, pu3, Nat.zero_add, Nat.reduceAdd, Nat.reduceBEq, Bool.or_false, Bool.false_or, Bool.or_true, Bool.true_or, Bool.false_eq_true, ↓reduceIte, Act.put, List.setIfInBounds_toArray, List.set_cons_zero, List.set_cons_succ]
      simp only [ea, h19]
      rw [if_pos (by rfl)]
      go_simp
      exact hK _ _ (up_alloc _ _) ⟨rfl, by show w1.heap.size < (w1.alloc _).heap.size; simp, _, _, by show [(x 22).v] = _; rw [ea], heap_alloc_new w1 _⟩
    · intro x w1 K hU hS hO hd hK
      have h23 : Pair1 w1 (x 23) [(x 22).v] := kval (hd 23 (by decide)).1 rfl
      have h22 : NumD (Xa) (na) w1 (x 22).lo (x 22).hi (x 22).v := kval (hd 22 (by decide)).1 rfl
      have h19 : (x 19).v = .bool true := kval (hd 19 (by decide)).1 rfl
      obtain ⟨ep, -, b1, v1, ql, hb⟩ := h23
      have ea := (List.cons.inj ql).1
      rw [ea] at h22
      clear hd
      refine Veil.mk ?_; simp only [kgoal, putsFrom, depsOf, pu0, pu1, pu2, pu3, Nat.zero_add, Nat.reduceAdd, Nat.reduceBEq, Bool.or_false, Bool.false_or, Bool.or_true, Bool.true_or, Bool.false_eq_true, ↓reduceIte, Act.put, List.setIfInBounds_toArray, List.set_cons_zero, List.set_cons_succ]
      simp only [ep, h19]
      rw [if_pos (by rfl)]
      go_simp
      refine (add1_rd (M := na) hb (h22.rd (by omega)) (by omega)).mono ?_
      rintro e w2 ⟨v2, rfl, n2, u2⟩
      exact hK _ _ u2 n2
    · intro x w1 K hU hS hO hd hK
      have h20 : (x 20).v = .agg #[.bool bp, .slice aop np capp] := kval (hd 20 (by decide)).1 rfl
      have h24 : NumIn (Xa) (na + 1) w1 (x 24).lo (x 24).hi (x 24).v := kval (hd 24 (by decide)).1 rfl
      have h19 : (x 19).v = .bool true := kval (hd 19 (by decide)).1 rfl
      clear hd
      refine Veil.mk ?_; simp only [kgoal, putsFrom, depsOf, pu0, pu1, pu2, pu3, Nat.zero_add, Nat.reduceAdd, Nat.reduceBEq, Bool.or_false, Bool.false_or, Bool.or_true, Bool.true_or, Bool.false_eq_true, ↓reduceIte, Act.put, List.setIfInBounds_toArray, List.set_cons_zero, List.set_cons_succ]
      simp only [h20, h19]
      rw [if_pos (by rfl)]
      go_simp
      refine (same_rd ((unhide Cp).up (Up.tr (up_drew _) (hS.upb rfl))) h24.rc (rfl)).mono ?_
      rintro e w2 ⟨v2, rfl, n2, u2⟩
      exact hK _ _ u2 n2
    · intro x w1 K hU hS hO hd hK
      have h19 : (x 19).v = .bool true := kval (hd 19 (by decide)).1 rfl
      have h25 : (x 25).v = .bool true := kval (hd 25 (by decide)).1 rfl
      clear hd
      refine Veil.mk ?_; simp only [kgoal, putsFrom, depsOf, pu0, pu1, pu2, pu3, Nat.zero_add, Nat.reduceAdd, Nat.reduceBEq, Bool.or_false, Bool.false_or, Bool.or_true, Bool.true_or, Bool.false_eq_true, ↓reduceIte, Act.put, List.setIfInBounds_toArray, List.set_cons_zero, List.set_cons_succ]
      simp only [h19, h25]
      go_simp
      exact hK _ _ (Up.refl _) rfl
    · intro x w1 K hU hS hO hd hK
      have h26 : (x 26).v = .bool true := kval (hd 26 (by decide)).1 rfl
      clear hd
      refine Veil.mk ?_; simp only [kgoal, putsFrom, depsOf, pu0, pu1, pu2, pu3, Nat.zero_add, Nat.reduceAdd, Nat.reduceBEq, Bool.or_false, Bool.false_or, Bool.or_true, Bool.true_or, Bool.false_eq_true, ↓reduceIte, Act.put, List.setIfInBounds_toArray, List.set_cons_zero, List.set_cons_succ]
      simp only [h26]
      go_simp
      exact hK _ _ (Up.refl _) rfl
    · intro x w1 K hU hS hO hd hK
      have h27 : (x 27).v = .bool true := kval (hd 27 (by decide)).1 rfl
      clear hd
      refine Veil.mk ?_; simp only [kgoal, putsFrom, depsOf, pu0, pu1, pu2, pu3, Nat.zero_add, Nat.reduceAdd, Nat.reduceBEq, Bool.or_false, Bool.false_or, Bool.or_true, Bool.true_or, Bool.false_eq_true, ↓reduceIte, Act.put, List.setIfInBounds_toArray, List.set_cons_zero, List.set_cons_succ]
      simp only [h27]
      rw [if_pos (by rfl)]
      go_simp
      refine (awake_rd ((unhide HT).up hU)).mono ?_
      rintro e w2 ⟨v2, rfl, n2, u2⟩
      exact hK _ _ u2 n2
    · intro x w1 K hU hS hO hd hK
      have h27 : (x 27).v = .bool true := kval (hd 27 (by decide)).1 rfl
      have h28 : (x 28).v = .bool true := kval (hd 28 (by decide)).1 rfl
      clear hd
      refine Veil.mk ?_; simp only [kgoal, putsFrom, depsOf, pu0, pu1, pu2, pu3, Nat.zero_add, Nat.reduceAdd, Nat.reduceBEq, Bool.or_false, Bool.false_or, Bool.or_true, Bool.true_or, Bool.false_eq_true, ↓reduceIte, Act.put, List.setIfInBounds_toArray, List.set_cons_zero, List.set_cons_succ]
      simp only [h27, h28]
      go_simp
      exact hK _ _ (Up.refl _) rfl
    · intro x w1 K hU hS hO hd hK
      have h29 : (x 29).v = .bool true := kval (hd 29 (by decide)).1 rfl
      clear hd
      refine Veil.mk ?_; simp only [kgoal, putsFrom, depsOf, pu0, pu1, pu2, pu3, Nat.zero_add, Nat.reduceAdd, Nat.reduceBEq, Bool.or_false, Bool.false_or, Bool.or_true, Bool.true_or, Bool.false_eq_true, ↓reduceIte, Act.put, List.setIfInBounds_toArray, List.set_cons_zero, List.set_cons_succ]
      simp only [h29]
      go_simp
      exact hK _ _ (Up.refl _) rfl
    intro x w1 hU hS hR hlo hdis
    have hfin : (x 30).v = .bool true := kval (hR 30 (by decide)) rfl
    have hG := Up.tr (up_drew _) (hS.upb rfl)
    refine Veil.mk ?_; simp only [kgoal, putsFrom, depsOf, pu0, pu1, pu2, pu3, Nat.zero_add, Nat.reduceAdd, Nat.reduceBEq, Bool.or_false, Bool.false_or, Bool.or_true, Bool.true_or, Bool.false_eq_true, ↓reduceIte, Act.put, List.setIfInBounds_toArray, List.set_cons_zero, List.set_cons_succ]
    rw [hfin]
    generalize (x 0).v = z0v
    generalize (x 1).v = z1v
    generalize (x 2).v = z2v
    generalize (x 3).v = z3v
    generalize (x 4).v = z4v
    generalize (x 5).v = z5v
    generalize (x 6).v = z6v
    generalize (x 7).v = z7v
    generalize (x 8).v = z8v
    generalize (x 9).v = z9v
    generalize (x 10).v = z10v
    generalize (x 11).v = z11v
    generalize (x 12).v = z12v
    generalize (x 13).v = z13v
    generalize (x 14).v = z14v
    generalize (x 15).v = z15v
    generalize (x 16).v = z16v
    generalize (x 17).v = z17v
    generalize (x 18).v = z18v
    generalize (x 19).v = z19v
    generalize (x 20).v = z20v
    generalize (x 21).v = z21v
    generalize (x 22).v = z22v
    generalize (x 23).v = z23v
    generalize (x 24).v = z24v
    generalize (x 25).v = z25v
    generalize (x 26).v = z26v
    generalize (x 27).v = z27v
    generalize (x 28).v = z28v
    generalize (x 29).v = z29v
    clear hR hlo hdis hS hfin
    go_wp2_with fail
    go_ret
    exact ⟨rfl, hU⟩

  · have hc1 : cmpZ Xa Xb = 0 := by rw [hlt]; exact cmpZ_self _
    have hc2 : cmpZ Xb Xa = 0 := by rw [hlt]; exact cmpZ_self _
    have hc3 : cmpZ (Xa + Xd) (Xb + Xd) = 0 := by rw [hlt]; exact cmpZ_self _
    clear hlt
    refine wp_region_knd (by kernel_rfl) w U0 [[], [0], [], [2], [1, 3], [], [5], [], [7], [6, 8], [9], [4, 10], [11], [12], [13, 12], [12], [15, 12], [14, 16, 12], [17, 14, 16, 12], [12], [19, 12], [12], [21, 12], [20, 22, 12], [23, 20, 22, 12], [18, 24, 12], [12], [26, 12], [12], [28, 12], [27, 29, 12], [25, 30, 12], [12, 31]] (Knd.val [] (fun _ g _ => g.v = .agg #[.bool ba, .slice aoa na capa]) :: Knd.val [] (fun w g _ => NumD (Xa) (na) w g.lo g.hi g.v) :: Knd.val [] (fun _ g _ => g.v = .agg #[.bool bb, .slice aob nb capb]) :: Knd.val [] (fun w g _ => NumD (Xb) (nb) w g.lo g.hi g.v) :: Knd.val [] (fun _ g _ => g.v = .int .i64 (0)) :: Knd.val [] (fun _ g _ => g.v = .agg #[.bool bb, .slice aob nb capb]) :: Knd.val [] (fun w g _ => NumD (Xb) (nb) w g.lo g.hi g.v) :: Knd.val [] (fun _ g _ => g.v = .agg #[.bool ba, .slice aoa na capa]) :: Knd.val [] (fun w g _ => NumD (Xa) (na) w g.lo g.hi g.v) :: Knd.val [] (fun _ g _ => g.v = .int .i64 (0)) :: Knd.val [] (fun _ g _ => g.v = .int .i64 (0)) :: Knd.val [] (fun _ g _ => g.v = .bool false) :: Knd.val [] (fun _ g _ => g.v = .bool false) :: Knd.val [] (fun _ g _ => g.v = .agg #[.bool ba, .slice aoa na capa]) :: Knd.val [] (fun w g _ => NumD (Xa) (na) w g.lo g.hi g.v) :: Knd.val [] (fun _ g _ => g.v = .agg #[.bool bd, .slice aod nd capd]) :: Knd.val [] (fun w g _ => NumD (Xd) (nd) w g.lo g.hi g.v) :: Knd.val [14, 16] (fun w g vs => Pair2 w g vs) :: Knd.val [] (fun w g _ => NumIn (Xa + Xd) (1048576 + 1) w g.lo g.hi g.v) :: Knd.val [] (fun _ g _ => g.v = .agg #[.bool bb, .slice aob nb capb]) :: Knd.val [] (fun w g _ => NumD (Xb) (nb) w g.lo g.hi g.v) :: Knd.val [] (fun _ g _ => g.v = .agg #[.bool bd, .slice aod nd capd]) :: Knd.val [] (fun w g _ => NumD (Xd) (nd) w g.lo g.hi g.v) :: Knd.val [20, 22] (fun w g vs => Pair2 w g vs) :: Knd.val [] (fun w g _ => NumIn (Xb + Xd) (1048576 + 1) w g.lo g.hi g.v) :: Knd.val [] (fun _ g _ => g.v = .int .i64 (0)) :: Knd.val [] (fun _ g _ => g.v = .agg #[.bool ba, .slice aoa na capa]) :: Knd.val [] (fun w g _ => NumD (Xa) (na) w g.lo g.hi g.v) :: Knd.val [] (fun _ g _ => g.v = .agg #[.bool bb, .slice aob nb capb]) :: Knd.val [] (fun w g _ => NumD (Xb) (nb) w g.lo g.hi g.v) :: Knd.val [] (fun _ g _ => g.v = .int .i64 (0)) :: Knd.val [] (fun _ g _ => g.v = .bool false) :: Knd.val [] (fun _ g _ => g.v = .bool false) :: []) (by kernel_rfl) (by kernel_rfl) rfl ⟨trivial, trivial, trivial, trivial, trivial, trivial, trivial, trivial, trivial, trivial, trivial, trivial, trivial, trivial, trivial, trivial, trivial, trivial, trivial, trivial, trivial, trivial, trivial, trivial, trivial, trivial, trivial, trivial, trivial, trivial, trivial, trivial, trivial, trivial⟩ ⟨fun _ _ _ _ _ h => h, fun _ _ _ _ hb h => h.keep hb, fun _ _ _ _ _ h => h, fun _ _ _ _ hb h => h.keep hb, fun _ _ _ _ _ h => h, fun _ _ _ _ _ h => h, fun _ _ _ _ hb h => h.keep hb, fun _ _ _ _ _ h => h, fun _ _ _ _ hb h => h.keep hb, fun _ _ _ _ _ h => h, fun _ _ _ _ _ h => h, fun _ _ _ _ _ h => h, fun _ _ _ _ _ h => h, fun _ _ _ _ _ h => h, fun _ _ _ _ hb h => h.keep hb, fun _ _ _ _ _ h => h, fun _ _ _ _ hb h => h.keep hb, fun _ _ _ _ hb h => h.keep hb, fun _ _ _ _ hb h => h.keep hb, fun _ _ _ _ _ h => h, fun _ _ _ _ hb h => h.keep hb, fun _ _ _ _ _ h => h, fun _ _ _ _ hb h => h.keep hb, fun _ _ _ _ hb h => h.keep hb, fun _ _ _ _ hb h => h.keep hb, fun _ _ _ _ _ h => h, fun _ _ _ _ _ h => h, fun _ _ _ _ hb h => h.keep hb, fun _ _ _ _ _ h => h, fun _ _ _ _ hb h => h.keep hb, fun _ _ _ _ _ h => h, fun _ _ _ _ _ h => h, fun _ _ _ _ _ h => h, trivial⟩ ⟨?_, ?_, ?_, ?_, ?_, ?_, ?_, ?_, ?_, ?_, ?_, ?_, ?_, ?_, ?_, ?_, ?_, ?_, ?_, ?_, ?_, ?_, ?_, ?_, ?_, ?_, ?_, ?_, ?_, ?_, ?_, ?_, ?_, trivial⟩ ?_
    · intro x w1 K hU hS hO hd hK
      obtain ⟨k0, k1, -⟩ := cells2 ((Up.tr (up_drew _) (hS.upb rfl)).blk (unhide K3).1)
      clear hd
      refine Veil.mk ?_; simp only [kgoal, putsFrom, depsOf, pu0, pu1, pu2, pu3, Nat.zero_add, Nat.reduceAdd, Nat.reduceBEq, Bool.or_false, Bool.false_or, Bool.or_true, Bool.true_or, Bool.false_eq_true, ↓reduceIte, Act.put, List.setIfInBounds_toArray, List.set_cons_zero, List.set_cons_succ]
      go_simp
      exact hK _ _ (Up.refl _) rfl
    · intro x w1 K hU hS hO hd hK
      have h0 : (x 0).v = .agg #[.bool ba, .slice aoa na capa] := kval (hd 0 (by decide)).1 rfl
      clear hd
      refine Veil.mk ?_; simp only [kgoal, putsFrom, depsOf, pu0, pu1, pu2, pu3, Nat.zero_add, Nat.reduceAdd, Nat.reduceBEq, Bool.or_false, Bool.false_or, Bool.or_true, Bool.true_or, Bool.false_eq_true, ↓reduceIte, Act.put, List.setIfInBounds_toArray, List.set_cons_zero, List.set_cons_succ]
      simp only [h0]
      go_simp
      refine (c_rd (M := na) (((unhide Ra).up hU)) (by omega)).mono ?_
      rintro e w2 ⟨v2, rfl, n2, u2⟩
      exact hK _ _ u2 n2
    · intro x w1 K hU hS hO hd hK
      obtain ⟨k0, k1, -⟩ := cells2 ((Up.tr (up_drew _) (hS.upb rfl)).blk (unhide K3).2.1)
      clear hd
      refine Veil.mk ?_; simp only [kgoal, putsFrom, depsOf, pu0, pu1, pu2, pu3, Nat.zero_add, Nat.reduceAdd, Nat.reduceBEq, Bool.or_false, Bool.false_or, Bool.or_true, Bool.true_or, Bool.false_eq_true, ↓reduceIte, Act.put, List.setIfInBounds_toArray, List.set_cons_zero, List.set_cons_succ]
      go_simp
      exact hK _ _ (Up.refl _) rfl
    · intro x w1 K hU hS hO hd hK
      have h2 : (x 2).v = .agg #[.bool bb, .slice aob nb capb] := kval (hd 2 (by decide)).1 rfl
      clear hd
      refine Veil.mk ?_; simp only [kgoal, putsFrom, depsOf, pu0, pu1, pu2, pu3, Nat.zero_add, Nat.reduceAdd, Nat.reduceBEq, Bool.or_false, Bool.false_or, Bool.or_true, Bool.true_or, Bool.false_eq_true, ↓reduceIte, Act.put, List.setIfInBounds_toArray, List.set_cons_zero, List.set_cons_succ]
      simp only [h2]
      go_simp
      refine (c_rd (M := nb) (((unhide Rb).up hU)) (by omega)).mono ?_
      rintro e w2 ⟨v2, rfl, n2, u2⟩
      exact hK _ _ u2 n2
    · intro x w1 K hU hS hO hd hK
      have h1 : NumD (Xa) (na) w1 (x 1).lo (x 1).hi (x 1).v := kval (hd 1 (by decide)).1 rfl
      have h3 : NumD (Xb) (nb) w1 (x 3).lo (x 3).hi (x 3).v := kval (hd 3 (by decide)).1 rfl
      clear hd
      refine Veil.mk ?_; simp only [kgoal, putsFrom, depsOf, pu0, pu1, pu2, pu3, Nat.zero_add, Nat.reduceAdd, Nat.reduceBEq, Bool.or_false, Bool.false_or, Bool.or_true, Bool.true_or, Bool.false_eq_true, ↓reduceIte, Act.put, List.setIfInBounds_toArray, List.set_cons_zero, List.set_cons_succ]
      go_simp
      refine (cmp_rd (M := 1048576) (h1.rd (by omega)) (h3.rd (by omega))).mono ?_
      rintro e w2 ⟨v2, rfl, n2, u2⟩
      rw [hc1] at n2
      exact hK _ _ u2 n2
    · intro x w1 K hU hS hO hd hK
      obtain ⟨k0, k1, -⟩ := cells2 ((Up.tr (up_drew _) (hS.upb rfl)).blk (unhide K3).2.1)
      clear hd
      refine Veil.mk ?_; simp only [kgoal, putsFrom, depsOf, pu0, pu1, pu2, pu3, Nat.zero_add, Nat.reduceAdd, Nat.reduceBEq, Bool.or_false, Bool.false_or, Bool.or_true, Bool.true_or, Bool.false_eq_true, ↓reduceIte, Act.put, List.setIfInBounds_toArray, List.set_cons_zero, List.set_cons_succ]
      go_simp
      exact hK _ _ (Up.refl _) rfl
    · intro x w1 K hU hS hO hd hK
      have h5 : (x 5).v = .agg #[.bool bb, .slice aob nb capb] := kval (hd 5 (by decide)).1 rfl
      clear hd
      refine Veil.mk ?_; simp only [kgoal, putsFrom, depsOf, pu0, pu1, pu2, pu3, Nat.zero_add, Nat.reduceAdd, Nat.reduceBEq, Bool.or_false, Bool.false_or, Bool.or_true, Bool.true_or, Bool.false_eq_true, ↓reduceIte, Act.put, List.setIfInBounds_toArray, List.set_cons_zero, List.set_cons_succ]
      simp only [h5]
      go_simp
      refine (c_rd (M := nb) (((unhide Rb).up hU)) (by omega)).mono ?_
      rintro e w2 ⟨v2, rfl, n2, u2⟩
      exact hK _ _ u2 n2
    · intro x w1 K hU hS hO hd hK
      obtain ⟨k0, k1, -⟩ := cells2 ((Up.tr (up_drew _) (hS.upb rfl)).blk (unhide K3).1)
      clear hd
      refine Veil.mk ?_; simp only [kgoal, putsFrom, depsOf, pu0, pu1, pu2, pu3, Nat.zero_add, Nat.reduceAdd, Nat.reduceBEq, Bool.or_false, Bool.false_or, Bool.or_true, Bool.true_or, Bool.false_eq_true, ↓reduceIte, Act.put, List.setIfInBounds_toArray, List.set_cons_zero, List.set_cons_succ]
      go_simp
      exact hK _ _ (Up.refl _) rfl
    · intro x w1 K hU hS hO hd hK
      have h7 : (x 7).v = .agg #[.bool ba, .slice aoa na capa] := kval (hd 7 (by decide)).1 rfl
      clear hd
      refine Veil.mk ?_; simp only [kgoal, putsFrom, depsOf, pu0, pu1, pu2, pu3, Nat.zero_add, Nat.reduceAdd, Nat.reduceBEq, Bool.or_false, Bool.false_or, Bool.or_true, Bool.true_or, Bool.false_eq_true, ↓reduceIte, Act.put, List.setIfInBounds_toArray, List.set_cons_zero, List.set_cons_succ]
      simp only [h7]
      go_simp
      refine (c_rd (M := na) (((unhide Ra).up hU)) (by omega)).mono ?_
      rintro e w2 ⟨v2, rfl, n2, u2⟩
      exact hK _ _ u2 n2
    · intro x w1 K hU hS hO hd hK
      have h6 : NumD (Xb) (nb) w1 (x 6).lo (x 6).hi (x 6).v := kval (hd 6 (by decide)).1 rfl
      have h8 : NumD (Xa) (na) w1 (x 8).lo (x 8).hi (x 8).v := kval (hd 8 (by decide)).1 rfl
      clear hd
      refine Veil.mk ?_; simp only [kgoal, putsFrom, depsOf, pu0, pu1, pu2, pu3, Nat.zero_add, Nat.reduceAdd, Nat.reduceBEq, Bool.or_false, Bool.false_or, Bool.or_true, Bool.true_or, Bool.false_eq_true, ↓reduceIte, Act.put, List.setIfInBounds_toArray, List.set_cons_zero, List.set_cons_succ]
      go_simp
      refine (cmp_rd (M := 1048576) (h6.rd (by omega)) (h8.rd (by omega))).mono ?_
      rintro e w2 ⟨v2, rfl, n2, u2⟩
      rw [hc2] at n2
      exact hK _ _ u2 n2
    · intro x w1 K hU hS hO hd hK
      have h9 : (x 9).v = .int .i64 (0) := kval (hd 9 (by decide)).1 rfl
      clear hd
      refine Veil.mk ?_; simp only [kgoal, putsFrom, depsOf, pu0, pu1, pu2, pu3, Nat.zero_add, Nat.reduceAdd, Nat.reduceBEq, Bool.or_false, Bool.false_or, Bool.or_true, Bool.true_or, Bool.false_eq_true, ↓reduceIte, Act.put, List.setIfInBounds_toArray, List.set_cons_zero, List.set_cons_succ]
      simp only [h9]
      go_simp
      exact hK _ _ (Up.refl _) rfl
    · intro x w1 K hU hS hO hd hK
      have h4 : (x 4).v = .int .i64 (0) := kval (hd 4 (by decide)).1 rfl
      have h10 : (x 10).v = .int .i64 (0) := kval (hd 10 (by decide)).1 rfl
      clear hd
      refine Veil.mk ?_; simp only [kgoal, putsFrom, depsOf, pu0, pu1, pu2, pu3, Nat.zero_add, Nat.reduceAdd, Nat.reduceBEq, Bool.or_false, Bool.false_or, Bool.or_true, Bool.true_or, Bool.false_eq_true, ↓reduceIte, Act.put, List.setIfInBounds_toArray, List.set_cons_zero, List.set_cons_succ]
      simp only [h4, h10]
      go_simp
      exact hK _ _ (Up.refl _) rfl
    · intro x w1 K hU hS hO hd hK
      have h11 : (x 11).v = .bool false := kval (hd 11 (by decide)).1 rfl
      clear hd
      refine Veil.mk ?_; simp only [kgoal, putsFrom, depsOf, pu0, pu1, pu2, pu3, Nat.zero_add, Nat.reduceAdd, Nat.reduceBEq, Bool.or_false, Bool.false_or, Bool.or_true, Bool.true_or, Bool.false_eq_true, ↓reduceIte, Act.put, List.setIfInBounds_toArray, List.set_cons_zero, List.set_cons_succ]
      simp only [h11]
      go_simp
      exact hK _ _ (Up.refl _) rfl
    · intro x w1 K hU hS hO hd hK
      have h12 : (x 12).v = .bool false := kval (hd 12 (by decide)).1 rfl
      obtain ⟨k0, k1, -⟩ := cells2 ((Up.tr (up_drew _) (hS.upb rfl)).blk (unhide K3).1)
      clear hd
      refine Veil.mk ?_; simp only [kgoal, putsFrom, depsOf, pu0, pu1, pu2, pu3, Nat.zero_add, Nat.reduceAdd, Nat.reduceBEq, Bool.or_false, Bool.false_or, Bool.or_true, Bool.true_or, Bool.false_eq_true, ↓reduceIte, Act.put, List.setIfInBounds_toArray, List.set_cons_zero, List.set_cons_succ]
      simp only [h12]
      rw [if_pos (by rfl)]
      go_simp
      exact hK _ _ (Up.refl _) rfl
    · intro x w1 K hU hS hO hd hK
      have h13 : (x 13).v = .agg #[.bool ba, .slice aoa na capa] := kval (hd 13 (by decide)).1 rfl
      have h12 : (x 12).v = .bool false := kval (hd 12 (by decide)).1 rfl
      clear hd
      refine Veil.mk ?_; simp only [kgoal, putsFrom, depsOf, pu0, pu1, pu2, pu3, Nat.zero_add, Nat.reduceAdd, Nat.reduceBEq, Bool.or_false, Bool.false_or, Bool.or_true, Bool.true_or, Bool.false_eq_true, ↓reduceIte, Act.put, List.setIfInBounds_toArray, List.set_cons_zero, List.set_cons_succ]
      simp only [h13, h12]
      rw [if_pos (by rfl)]
      go_simp
      refine (c_rd (M := na) (((unhide Ra).up hU)) (by omega)).mono ?_
      rintro e w2 ⟨v2, rfl, n2, u2⟩
      exact hK _ _ u2 n2
    · intro x w1 K hU hS hO hd hK
      have h12 : (x 12).v = .bool false := kval (hd 12 (by decide)).1 rfl
      obtain ⟨k0, k1, -⟩ := cells2 ((Up.tr (up_drew _) (hS.upb rfl)).blk (unhide K3).2.2)
      clear hd
      refine Veil.mk ?_; simp only [kgoal, putsFrom, depsOf, pu0, pu1, pu2, pu3, Nat.zero_add, Nat.reduceAdd, Nat.reduceBEq, Bool.or_false, Bool.false_or, Bool.or_true, Bool.true_or, Bool.false_eq_true, ↓reduceIte, Act.put, List.setIfInBounds_toArray, List.set_cons_zero, List.set_cons_succ]
      simp only [h12]
      rw [if_pos (by rfl)]
      go_simp
      exact hK _ _ (Up.refl _) rfl
    · intro x w1 K hU hS hO hd hK
      have h15 : (x 15).v = .agg #[.bool bd, .slice aod nd capd] := kval (hd 15 (by decide)).1 rfl
      have h12 : (x 12).v = .bool false := kval (hd 12 (by decide)).1 rfl
      clear hd
      refine Veil.mk ?_; simp only [kgoal, putsFrom, depsOf, pu0, pu1, pu2, pu3, Nat.zero_add, Nat.reduceAdd, Nat.reduceBEq, Bool.or_false, Bool.false_or, Bool.or_true, Bool.true_or, Bool.false_eq_true, ↓reduceIte, Act.put, List.setIfInBounds_toArray, List.set_cons_zero, List.set_cons_succ]
      simp only [h15, h12]
      rw [if_pos (by rfl)]
      go_simp
      refine (c_rd (M := nd) (((unhide Rd).up hU)) (by omega)).mono ?_
      rintro e w2 ⟨v2, rfl, n2, u2⟩
      exact hK _ _ u2 n2
    · intro x w1 K hU hS hO hd hK
      have h14 : NumD (Xa) (na) w1 (x 14).lo (x 14).hi (x 14).v := kval (hd 14 (by decide)).1 rfl
      have h16 : NumD (Xd) (nd) w1 (x 16).lo (x 16).hi (x 16).v := kval (hd 16 (by decide)).1 rfl
      have h12 : (x 12).v = .bool false := kval (hd 12 (by decide)).1 rfl
      obtain ⟨pa, qa, ra, ta, ea⟩ := (h14.rd (Nat.le_refl _)).agg
      obtain ⟨pb, qb, rb, tb, eb⟩ := (h16.rd (Nat.le_refl _)).agg
      clear hd
      refine Veil.mk ?_; simp only [kgoal, putsFrom, depsOf, pu0, pu1, pu2, pu3, Nat.zero_add, Nat.reduceAdd, Nat.reduceBEq, Bool.or_false, Bool.false_or, Bool.or_true, Bool.true_or, Bool.false_eq_true, ↓reduceIte, Act.put, List.setIfInBounds_toArray, List.set_cons_zero, List.set_cons_succ]
      simp only [ea, eb, h12]
      rw [if_pos (by rfl)]
      go_simp
      exact hK _ _ (up_alloc _ _) ⟨rfl, by show w1.heap.size < (w1.alloc _).heap.size; simp, _, _, _, _, by show [(x 14).v, (x 16).v] = _; rw [ea, eb], heap_alloc_new w1 _⟩
    · intro x w1 K hU hS hO hd hK
      have h17 : Pair2 w1 (x 17) [(x 14).v, (x 16).v] := kval (hd 17 (by decide)).1 rfl
      have h14 : NumD (Xa) (na) w1 (x 14).lo (x 14).hi (x 14).v := kval (hd 14 (by decide)).1 rfl
      have h16 : NumD (Xd) (nd) w1 (x 16).lo (x 16).hi (x 16).v := kval (hd 16 (by decide)).1 rfl
      have h12 : (x 12).v = .bool false := kval (hd 12 (by decide)).1 rfl
      obtain ⟨ep, -, b1, v1, b2, v2, ql, hb⟩ := h17
      have ea := (List.cons.inj ql).1
      have eb := (List.cons.inj (List.cons.inj ql).2).1
      rw [ea] at h14
      rw [eb] at h16
      clear hd
      refine Veil.mk ?_; simp only [kgoal, putsFrom, depsOf, pu0, pu1, pu2, pu3, Nat.zero_add, Nat.reduceAdd, Nat.reduceBEq, Bool.or_false, Bool.false_or, Bool.or_true, Bool.true_or, Bool.false_eq_true, ↓reduceIte, Act.put, List.setIfInBounds_toArray, List.set_cons_zero, List.set_cons_succ]
      simp only [ep, h12]
      rw [if_pos (by rfl)]
      go_simp
      refine (add2_rd (M := 1048576) hb (h14.rd (by omega)) (h16.rd (by omega)) (by omega)).mono ?_
      rintro e w2 ⟨v2, rfl, n2, u2⟩
      exact hK _ _ u2 n2
    · intro x w1 K hU hS hO hd hK
      have h12 : (x 12).v = .bool false := kval (hd 12 (by decide)).1 rfl
      obtain ⟨k0, k1, -⟩ := cells2 ((Up.tr (up_drew _) (hS.upb rfl)).blk (unhide K3).2.1)
      clear hd
      refine Veil.mk ?_; simp only [kgoal, putsFrom, depsOf, pu0, pu1, pu2, pu3, Nat.zero_add, Nat.reduceAdd, Nat.reduceBEq, Bool.or_false, Bool.false_or, Bool.or_true, Bool.true_or, Bool.false_eq_true, ↓reduceIte, Act.put, List.setIfInBounds_toArray, List.set_cons_zero, List.set_cons_succ]
      simp only [h12]
      rw [if_pos (by rfl)]
      go_simp
      exact hK _ _ (Up.refl _) rfl
    · intro x w1 K hU hS hO hd hK
      have h19 : (x 19).v = .agg #[.bool bb, .slice aob nb capb] := kval (hd 19 (by decide)).1 rfl
      have h12 : (x 12).v = .bool false := kval (hd 12 (by decide)).1 rfl
      clear hd
      refine Veil.mk ?_; simp only [kgoal, putsFrom, depsOf, pu0, pu1, pu2, pu3, Nat.zero_add, Nat.reduceAdd, Nat.reduceBEq, Bool.or_false, Bool.false_or, Bool.or_true, Bool.true_or, Bool.false_eq_true, ↓reduceIte, Act.put, List.setIfInBounds_toArray, List.set_cons_zero, List.set_cons_succ]
      simp only [h19, h12]
      rw [if_pos (by rfl)]
      go_simp
      refine (c_rd (M := nb) (((unhide Rb).up hU)) (by omega)).mono ?_
      rintro e w2 ⟨v2, rfl, n2, u2⟩
      exact hK _ _ u2 n2
    · intro x w1 K hU hS hO hd hK
      have h12 : (x 12).v = .bool false := kval (hd 12 (by decide)).1 rfl
      obtain ⟨k0, k1, -⟩ := cells2 ((Up.tr (up_drew _) (hS.upb rfl)).blk (unhide K3).2.2)
      clear hd
      refine Veil.mk ?_; simp only [kgoal, putsFrom, depsOf, pu0, pu1, pu2, pu3, Nat.zero_add, Nat.reduceAdd, Nat.reduceBEq, Bool.or_false, Bool.false_or, Bool.or_true, Bool.true_or, Bool.false_eq_true, ↓reduceIte, Act.put, List.setIfInBounds_toArray, List.set_cons_zero, List.set_cons_succ]
      simp only [h12]
      rw [if_pos (by rfl)]
      go_simp
      exact hK _ _ (Up.refl _) rfl
    · intro x w1 K hU hS hO hd hK
      have h21 : (x 21).v = .agg #[.bool bd, .slice aod nd capd] := kval (hd 21 (by decide)).1 rfl
      have h12 : (x 12).v = .bool false := kval (hd 12 (by decide)).1 rfl
      clear hd
      refine Veil.mk ?_; simp only [kgoal, putsFrom, depsOf, pu0, pu1, pu2, pu3, Nat.zero_add, Nat.reduceAdd, Nat.reduceBEq, Bool.or_false, Bool.false_or, Bool.or_true, Bool.true_or, Bool.false_eq_true, ↓reduceIte, Act.put, List.setIfInBounds_toArray, List.set_cons_zero, List.set_cons_succ]
      simp only [h21, h12]
      rw [if_pos (by rfl)]
      go_simp
      refine (c_rd (M := nd) (((unhide Rd).up hU)) (by omega)).mono ?_
      rintro e w2 ⟨v2, rfl, n2, u2⟩
      exact hK _ _ u2 n2
    · intro x w1 K hU hS hO hd hK
      have h20 : NumD (Xb) (nb) w1 (x 20).lo (x 20).hi (x 20).v := kval (hd 20 (by decide)).1 rfl
      have h22 : NumD (Xd) (nd) w1 (x 22).lo (x 22).hi (x 22).v := kval (hd 22 (by decide)).1 rfl
      have h12 : (x 12).v = .bool false := kval (hd 12 (by decide)).1 rfl
      obtain ⟨pa, qa, ra, ta, ea⟩ := (h20.rd (Nat.le_refl _)).agg
      obtain ⟨pb, qb, rb, tb, eb⟩ := (h22.rd (Nat.le_refl _)).agg
      clear hd
      refine Veil.mk ?_; simp only [kgoal, putsFrom, depsOf, pu0, pu1, pu2, pu3, Nat.zero_add, Nat.reduceAdd, Nat.reduceBEq, Bool.or_false, Bool.false_or, Bool.or_true, Bool.true_or, Bool.false_eq_true, ↓reduceIte, Act.put, List.setIfInBounds_toArray, List.set_cons_zero, List.set_cons_succ]
      simp only [ea, eb, h12]
      rw [if_pos (by rfl)]
      go_simp
      exact hK _ _ (up_alloc _ _) ⟨rfl, by show w1.heap.size < (w1.alloc _).heap.size; simp, _, _, _, _, by show [(x 20).v, (x 22).v] = _; rw [ea, eb], heap_alloc_new w1 _⟩
    · intro x w1 K hU hS hO hd hK
      have h23 : Pair2 w1 (x 23) [(x 20).v, (x 22).v] := kval (hd 23 (by decide)).1 rfl
      have h20 : NumD (Xb) (nb) w1 (x 20).lo (x 20).hi (x 20).v := kval (hd 20 (by decide)).1 rfl
      have h22 : NumD (Xd) (nd) w1 (x 22).lo (x 22).hi (x 22).v := kval (hd 22 (by decide)).1 rfl
      have h12 : (x 12).v = .bool false := kval (hd 12 (by decide)).1 rfl
      obtain ⟨ep, -, b1, v1, b2, v2, ql, hb⟩ := h23
      have ea := (List.cons.inj ql).1
      have eb := (List.cons.inj (List.cons.inj ql).2).1
      rw [ea] at h20
      rw [eb] at h22
      clear hd
      refine Veil.mk ?_; simp only [kgoal, putsFrom, depsOf, pu0, pu1, pu2, pu3, Nat.zero_add, Nat.reduceAdd, Nat.reduceBEq, Bool.or_false, Bool.false_or, Bool.or_true, Bool.true_or, Bool.false_eq_true, ↓reduceIte, Act.put, List.setIfInBounds_toArray, List.set_cons_zero, List.set_cons_succ]
      simp only [ep, h12]
      rw [if_pos (by rfl)]
      go_simp
      refine (add2_rd (M := 1048576) hb (h20.rd (by omega)) (h22.rd (by omega)) (by omega)).mono ?_
      rintro e w2 ⟨v2, rfl, n2, u2⟩
      exact hK _ _ u2 n2
    · intro x w1 K hU hS hO hd hK
      have h18 : NumIn (Xa + Xd) (1048576 + 1) w1 (x 18).lo (x 18).hi (x 18).v := kval (hd 18 (by decide)).1 rfl
      have h24 : NumIn (Xb + Xd) (1048576 + 1) w1 (x 24).lo (x 24).hi (x 24).v := kval (hd 24 (by decide)).1 rfl
      have h12 : (x 12).v = .bool false := kval (hd 12 (by decide)).1 rfl
      clear hd
      refine Veil.mk ?_; simp only [kgoal, putsFrom, depsOf, pu0, pu1, pu2, pu3, Nat.zero_add, Nat.reduceAdd, Nat.reduceBEq, Bool.or_false, Bool.false_or, Bool.or_true, Bool.true_or, Bool.false_eq_true, ↓reduceIte, Act.put, List.setIfInBounds_toArray, List.set_cons_zero, List.set_cons_succ]
      simp only [h12]
      rw [if_pos (by rfl)]
      go_simp
      refine (cmp_rd (M := 1048576 + 1) (h18.rd (by omega)) (h24.rd (by omega))).mono ?_
      rintro e w2 ⟨v2, rfl, n2, u2⟩
      rw [hc3] at n2
      exact hK _ _ u2 n2
    · intro x w1 K hU hS hO hd hK
      have h12 : (x 12).v = .bool false := kval (hd 12 (by decide)).1 rfl
      obtain ⟨k0, k1, -⟩ := cells2 ((Up.tr (up_drew _) (hS.upb rfl)).blk (unhide K3).1)
      clear hd
      refine Veil.mk ?_; simp only [kgoal, putsFrom, depsOf, pu0, pu1, pu2, pu3, Nat.zero_add, Nat.reduceAdd, Nat.reduceBEq, Bool.or_false, Bool.false_or, Bool.or_true, Bool.true_or, Bool.false_eq_true, ↓reduceIte, Act.put, List.setIfInBounds_toArray, List.set_cons_zero, List.set_cons_succ]
      simp only [h12]
      rw [if_pos (by rfl)]
      go_simp
      exact hK _ _ (Up.refl _) rfl
    · intro x w1 K hU hS hO hd hK
      have h26 : (x 26).v = .agg #[.bool ba, .slice aoa na capa] := kval (hd 26 (by decide)).1 rfl
      have h12 : (x 12).v = .bool false := kval (hd 12 (by decide)).1 rfl
      clear hd
      refine Veil.mk ?_; simp only [kgoal, putsFrom, depsOf, pu0, pu1, pu2, pu3, Nat.zero_add, Nat.reduceAdd, Nat.reduceBEq, Bool.or_false, Bool.false_or, Bool.or_true, Bool.true_or, Bool.false_eq_true, ↓reduceIte, Act.put, List.setIfInBounds_toArray, List.set_cons_zero, List.set_cons_succ]
      simp only [h26, h12]
      rw [if_pos (by rfl)]
      go_simp
      refine (c_rd (M := na) (((unhide Ra).up hU)) (by omega)).mono ?_
      rintro e w2 ⟨v2, rfl, n2, u2⟩
      exact hK _ _ u2 n2
    · intro x w1 K hU hS hO hd hK
      have h12 : (x 12).v = .bool false := kval (hd 12 (by decide)).1 rfl
      obtain ⟨k0, k1, -⟩ := cells2 ((Up.tr (up_drew _) (hS.upb rfl)).blk (unhide K3).2.1)
      clear hd
      refine Veil.mk ?_; simp only [kgoal, putsFrom, depsOf, pu0, pu1, pu2, pu3, Nat.zero_add, Nat.reduceAdd, Nat.reduceBEq, Bool.or_false, Bool.false_or, Bool.or_true, Bool.true_or, Bool.false_eq_true, ↓reduceIte, Act.put, List.setIfInBounds_toArray, List.set_cons_zero, List.set_cons_succ]
      simp only [h12]
      rw [if_pos (by rfl)]
      go_simp
      exact hK _ _ (Up.refl _) rfl
    · intro x w1 K hU hS hO hd hK
      have h28 : (x 28).v = .agg #[.bool bb, .slice aob nb capb] := kval (hd 28 (by decide)).1 rfl
      have h12 : (x 12).v = .bool false := kval (hd 12 (by decide)).1 rfl
      clear hd
      refine Veil.mk ?_; simp only [kgoal, putsFrom, depsOf, pu0, pu1, pu2, pu3, Nat.zero_add, Nat.reduceAdd, Nat.reduceBEq, Bool.or_false, Bool.false_or, Bool.or_true, Bool.true_or, Bool.false_eq_true, ↓reduceIte, Act.put, List.setIfInBounds_toArray, List.set_cons_zero, List.set_cons_succ]
      simp only [h28, h12]
      rw [if_pos (by rfl)]
      go_simp
      refine (c_rd (M := nb) (((unhide Rb).up hU)) (by omega)).mono ?_
      rintro e w2 ⟨v2, rfl, n2, u2⟩
      exact hK _ _ u2 n2
    · intro x w1 K hU hS hO hd hK
      have h27 : NumD (Xa) (na) w1 (x 27).lo (x 27).hi (x 27).v := kval (hd 27 (by decide)).1 rfl
      have h29 : NumD (Xb) (nb) w1 (x 29).lo (x 29).hi (x 29).v := kval (hd 29 (by decide)).1 rfl
      have h12 : (x 12).v = .bool false := kval (hd 12 (by decide)).1 rfl
      clear hd
      refine Veil.mk ?_; simp only [kgoal, putsFrom, depsOf, pu0, pu1, pu2, pu3, Nat.zero_add, Nat.reduceAdd, Nat.reduceBEq, Bool.or_false, Bool.false_or, Bool.or_true, Bool.true_or, Bool.false_eq_true, ↓reduceIte, Act.put, List.setIfInBounds_toArray, List.set_cons_zero, List.set_cons_succ]
      simp only [h12]
      rw [if_pos (by rfl)]
      go_simp
      refine (cmp_rd (M := 1048576) (h27.rd (by omega)) (h29.rd (by omega))).mono ?_
      rintro e w2 ⟨v2, rfl, n2, u2⟩
      rw [hc1] at n2
      exact hK _ _ u2 n2
    · intro x w1 K hU hS hO hd hK
      have h25 : (x 25).v = .int .i64 (0) := kval (hd 25 (by decide)).1 rfl
      have h30 : (x 30).v = .int .i64 (0) := kval (hd 30 (by decide)).1 rfl
      have h12 : (x 12).v = .bool false := kval (hd 12 (by decide)).1 rfl
      clear hd
      refine Veil.mk ?_; simp only [kgoal, putsFrom, depsOf, pu0, pu1, pu2, pu3, Nat.zero_add, Nat.reduceAdd, Nat.reduceBEq, Bool.or_false, Bool.false_or, Bool.or_true, Bool.true_or, Bool.false_eq_true, ↓reduceIte, Act.put, List.setIfInBounds_toArray, List.set_cons_zero, List.set_cons_succ]
      simp only [h25, h30, h12]
      rw [if_pos (by rfl)]
      go_simp
      exact hK _ _ (Up.refl _) rfl
    · intro x w1 K hU hS hO hd hK
      have h12 : (x 12).v = .bool false := kval (hd 12 (by decide)).1 rfl
      have h31 : (x 31).v = .bool false := kval (hd 31 (by decide)).1 rfl
      clear hd
      refine Veil.mk ?_; simp only [kgoal, putsFrom, depsOf, pu0, pu1, pu2, pu3, Nat.zero_add, Nat.reduceAdd, Nat.reduceBEq, Bool.or_false, Bool.false_or, Bool.or_true, Bool.true_or, Bool.false_eq_true, ↓reduceIte, Act.put, List.setIfInBounds_toArray, List.set_cons_zero, List.set_cons_succ]
      simp only [h12, h31]
      go_simp
      exact hK _ _ (Up.refl _) rfl
    intro x w1 hU hS hR hlo hdis
    have hfin : (x 32).v = .bool false := kval (hR 32 (by decide)) rfl
    have hG := Up.tr (up_drew _) (hS.upb rfl)
    refine Veil.mk ?_; simp only [kgoal, putsFrom, depsOf, pu0, pu1, pu2, pu3, Nat.zero_add, Nat.reduceAdd, Nat.reduceBEq, Bool.or_false, Bool.false_or, Bool.or_true, Bool.true_or, Bool.false_eq_true, ↓reduceIte, Act.put, List.setIfInBounds_toArray, List.set_cons_zero, List.set_cons_succ]
    rw [hfin]
    generalize (x 0).v = z0u
    generalize (x 1).v = z1u
    generalize (x 2).v = z2u
    generalize (x 3).v = z3u
    generalize (x 4).v = z4u
    generalize (x 5).v = z5u
    generalize (x 6).v = z6u
    generalize (x 7).v = z7u
    generalize (x 8).v = z8u
    generalize (x 9).v = z9u
    generalize (x 10).v = z10u
    generalize (x 11).v = z11u
    generalize (x 12).v = z12u
    generalize (x 13).v = z13u
    generalize (x 14).v = z14u
    generalize (x 15).v = z15u
    generalize (x 16).v = z16u
    generalize (x 17).v = z17u
    generalize (x 18).v = z18u
    generalize (x 19).v = z19u
    generalize (x 20).v = z20u
    generalize (x 21).v = z21u
    generalize (x 22).v = z22u
    generalize (x 23).v = z23u
    generalize (x 24).v = z24u
    generalize (x 25).v = z25u
    generalize (x 26).v = z26u
    generalize (x 27).v = z27u
    generalize (x 28).v = z28u
    generalize (x 29).v = z29u
    generalize (x 30).v = z30u
    generalize (x 31).v = z31u
    clear hR hlo hdis hS hfin
    have B1 := hG
    have U1 := hU
    clear hG hU hc1 hc2 hc3
    go_wp2_with fail
    refine wp_region_knd (by kernel_rfl) w U1 [[], [0], [], [2], [3], [1, 4], [5, 1, 4], [], [7, 6]] [.val [] (fun _ g _ => g.v = .agg #[.bool ba, .slice aoa na capa]), .val [] (fun w g _ => NumD (Xa) (na) w g.lo g.hi g.v), .val [] (fun _ g _ => g.v = .agg #[.bool ba, .slice aoa na capa]), .val [] (fun w g _ => NumD (Xa) (na) w g.lo g.hi g.v), .val [] (fun w g _ => NumIn (-(Xa)) (na) w g.lo g.hi g.v), .val [1, 4] (fun w g vs => Pair2 w g vs), .val [] (fun w g _ => NumIn (Xa + (-(Xa))) (1048576 + 1) w g.lo g.hi g.v), .box 26 2, .sto 7 6 26 2] (by kernel_rfl) (by kernel_rfl) rfl ⟨trivial, trivial, trivial, trivial, trivial, trivial, trivial, trivial, trivial, trivial⟩ ⟨fun _ _ _ _ _ h => h, fun _ _ _ _ hb h => h.keep hb, fun _ _ _ _ _ h => h, fun _ _ _ _ hb h => h.keep hb, fun _ _ _ _ hb h => h.keep hb, fun _ _ _ _ hb h => h.keep hb, fun _ _ _ _ hb h => h.keep hb, trivial, trivial, trivial⟩ ⟨?_, ?_, ?_, ?_, ?_, ?_, ?_, ?_, ?_, trivial⟩ ?_
    · intro x w1 K hU hS hO hd hK
      obtain ⟨k0, k1, -⟩ := cells2 ((B1.tr (Up.tr (up_drew _) (hS.upb rfl))).blk (unhide K3).1)
      clear hd
      refine Veil.mk ?_; simp only [kgoal, putsFrom, depsOf, pu0, pu1, pu2, pu3, Nat.zero_add, Nat.reduceAdd, Nat.reduceBEq, Bool.or_false, Bool.false_or, Bool.or_true, Bool.true_or, Bool.false_eq_true, ↓reduceIte, Act.put, List.setIfInBounds_toArray, List.set_cons_zero, List.set_cons_succ]
      go_simp
      exact hK _ _ (Up.refl _) rfl
    · intro x w1 K hU hS hO hd hK
      have h0 : (x 0).v = .agg #[.bool ba, .slice aoa na capa] := kval (hd 0 (by decide)).1 rfl
      clear hd
      refine Veil.mk ?_; simp only [kgoal, putsFrom, depsOf, pu0, pu1, pu2, pu3, Nat.zero_add, Nat.reduceAdd, Nat.reduceBEq, Bool.or_false, Bool.false_or, Bool.or_true, Bool.true_or, Bool.false_eq_true, ↓reduceIte, Act.put, List.setIfInBounds_toArray, List.set_cons_zero, List.set_cons_succ]
      simp only [h0]
      go_simp
      refine (c_rd (M := na) (((unhide Ra).up hU)) (by omega)).mono ?_
      rintro e w2 ⟨v2, rfl, n2, u2⟩
      exact hK _ _ u2 n2
    · intro x w1 K hU hS hO hd hK
      obtain ⟨k0, k1, -⟩ := cells2 ((B1.tr (Up.tr (up_drew _) (hS.upb rfl))).blk (unhide K3).1)
      clear hd
      refine Veil.mk ?_; simp only [kgoal, putsFrom, depsOf, pu0, pu1, pu2, pu3, Nat.zero_add, Nat.reduceAdd, Nat.reduceBEq, Bool.or_false, Bool.false_or, Bool.or_true, Bool.true_or, Bool.false_eq_true, ↓reduceIte, Act.put, List.setIfInBounds_toArray, List.set_cons_zero, List.set_cons_succ]
      go_simp
      exact hK _ _ (Up.refl _) rfl
    · intro x w1 K hU hS hO hd hK
      have h2 : (x 2).v = .agg #[.bool ba, .slice aoa na capa] := kval (hd 2 (by decide)).1 rfl
      clear hd
      refine Veil.mk ?_; simp only [kgoal, putsFrom, depsOf, pu0, pu1, pu2, pu3, Nat.zero_add, Nat.reduceAdd, Nat.reduceBEq, Bool.or_false, Bool.false_or, Bool.or_true, Bool.true_or, Bool.false_eq_true, ↓reduceIte, Act.put, List.setIfInBounds_toArray, List.set_cons_zero, List.set_cons_succ]
      simp only [h2]
      go_simp
      refine (c_rd (M := na) (((unhide Ra).up hU)) (by omega)).mono ?_
      rintro e w2 ⟨v2, rfl, n2, u2⟩
      exact hK _ _ u2 n2
    · intro x w1 K hU hS hO hd hK
      have h3 : NumD (Xa) (na) w1 (x 3).lo (x 3).hi (x 3).v := kval (hd 3 (by decide)).1 rfl
      clear hd
      refine Veil.mk ?_; simp only [kgoal, putsFrom, depsOf, pu0, pu1, pu2, pu3, Nat.zero_add, Nat.reduceAdd, Nat.reduceBEq, Bool.or_false, Bool.false_or, Bool.or_true, Bool.true_or, Bool.false_eq_true, ↓reduceIte, Act.put, List.setIfInBounds_toArray, List.set_cons_zero, List.set_cons_succ]
      go_simp
      refine (neg_rd (M := na) (h3.rd (by omega)) (by omega)).mono ?_
      rintro e w2 ⟨v2, rfl, n2, u2⟩
      exact hK _ _ u2 n2
    · intro x w1 K hU hS hO hd hK
      have h1 : NumD (Xa) (na) w1 (x 1).lo (x 1).hi (x 1).v := kval (hd 1 (by decide)).1 rfl
      have h4 : NumIn (-(Xa)) (na) w1 (x 4).lo (x 4).hi (x 4).v := kval (hd 4 (by decide)).1 rfl
      obtain ⟨pa, qa, ra, ta, ea⟩ := (h1.rd (Nat.le_refl _)).agg
      obtain ⟨pb, qb, rb, tb, eb⟩ := (h4.rd (Nat.le_refl _)).agg
      clear hd
      refine Veil.mk ?_; simp only [kgoal, putsFrom, depsOf, pu0, pu1, pu2, pu3, Nat.zero_add, Nat.reduceAdd, Nat.reduceBEq, Bool.or_false, Bool.false_or, Bool.or_true, Bool.true_or, Bool.false_eq_true, ↓reduceIte, Act.put, List.setIfInBounds_toArray, List.set_cons_zero, List.set_cons_succ]
      simp only [ea, eb]
      go_simp
      exact hK _ _ (up_alloc _ _) ⟨rfl, by show w1.heap.size < (w1.alloc _).heap.size; simp, _, _, _, _, by show [(x 1).v, (x 4).v] = _; rw [ea, eb], heap_alloc_new w1 _⟩
    · intro x w1 K hU hS hO hd hK
      have h5 : Pair2 w1 (x 5) [(x 1).v, (x 4).v] := kval (hd 5 (by decide)).1 rfl
      have h1 : NumD (Xa) (na) w1 (x 1).lo (x 1).hi (x 1).v := kval (hd 1 (by decide)).1 rfl
      have h4 : NumIn (-(Xa)) (na) w1 (x 4).lo (x 4).hi (x 4).v := kval (hd 4 (by decide)).1 rfl
      obtain ⟨ep, -, b1, v1, b2, v2, ql, hb⟩ := h5
      have ea := (List.cons.inj ql).1
      have eb := (List.cons.inj (List.cons.inj ql).2).1
      rw [ea] at h1
      rw [eb] at h4
      clear hd
      refine Veil.mk ?_; simp only [kgoal, putsFrom, depsOf, pu0, pu1, pu2, pu3, Nat.zero_add, Nat.reduceAdd, Nat.reduceBEq, Bool.or_false, Bool.false_or, Bool.or_true, Bool.true_or, Bool.false_eq_true, ↓reduceIte, Act.put, List.setIfInBounds_toArray, List.set_cons_zero, List.set_cons_succ]
      simp only [ep]
      go_simp
      refine (add2_rd (M := 1048576) hb (h1.rd (by omega)) (h4.rd (by omega)) (by omega)).mono ?_
      rintro e w2 ⟨v2, rfl, n2, u2⟩
      exact hK _ _ u2 n2
    · intro x w1 K hU hS hO hd hK
      refine Veil.mk ?_; simp only [kgoal, putsFrom, depsOf, pu0, pu1, pu2, pu3, Nat.zero_add, Nat.reduceAdd, Nat.reduceBEq, Bool.or_false, Bool.false_or, Bool.or_true, Bool.true_or, Bool.false_eq_true, ↓reduceIte, Act.put, List.setIfInBounds_toArray, List.set_cons_zero, List.set_cons_succ]
      go_simp
      exact hK _ _ (up_alloc _ _) (box_new rfl hS)
    · intro x w1 K hU hS hO hd hK
      obtain ⟨c0, c1, eb, hb⟩ := kbox2 (hd 7 (by decide)).1 rfl
      have h6 : NumIn (Xa + (-(Xa))) (1048576 + 1) w1 (x 6).lo (x 6).hi (x 6).v := kval (hd 6 (by decide)).1 rfl
      obtain ⟨pa, qa, ra, ta, es⟩ := (h6.rd (Nat.le_refl _)).agg
      clear h6
      obtain ⟨d0, d1, f0, f1, -⟩ := cells2 hb
      clear hd
      refine Veil.mk ?_; simp only [kgoal, putsFrom, depsOf, pu0, pu1, pu2, pu3, Nat.zero_add, Nat.reduceAdd, Nat.reduceBEq, Bool.or_false, Bool.false_or, Bool.or_true, Bool.true_or, Bool.false_eq_true, ↓reduceIte, Act.put, List.setIfInBounds_toArray, List.set_cons_zero, List.set_cons_succ]
      go_simp
      exact hK _ _ (sto_two hb _ _).1 ⟨_, rfl, es, (sto_two hb _ _).2⟩
    intro x w1 hU hS hR hlo hdis
    have hx : NumIn (Xa + (-(Xa))) (1048576 + 1) w1 (x 6).lo (x 6).hi (x 6).v := kval (hR 6 (by decide)) rfl
    obtain ⟨bz, aoz, nz, capz, ex⟩ := (hx.rd (Nat.le_refl _)).agg
    rw [ex] at hx
    obtain ⟨cs, -, q0, Tz⟩ := ksto (hR 8 (by decide)) rfl
    rw [ex] at q0
    cases q0
    obtain ⟨eb, -⟩ := kbox (hR 7 (by decide)) rfl
    obtain ⟨rfl, rfl⟩ := RdC.zero hx.rc (by omega)
    have hG := Up.tr (up_drew _) (hS.upb rfl)
    refine Veil.mk ?_; simp only [kgoal, putsFrom, depsOf, pu0, pu1, pu2, pu3, Nat.zero_add, Nat.reduceAdd, Nat.reduceBEq, Bool.or_false, Bool.false_or, Bool.or_true, Bool.true_or, Bool.false_eq_true, ↓reduceIte, Act.put, List.setIfInBounds_toArray, List.set_cons_zero, List.set_cons_succ]
    rw [eb]
    generalize (x 0).v = y0z at *
    generalize (x 1).v = y1z at *
    generalize (x 2).v = y2z at *
    generalize (x 3).v = y3z at *
    generalize (x 4).v = y4z at *
    generalize (x 5).v = y5z at *
    generalize (x 6).v = y6z at *
    generalize (x 7).lo = gz at *
    have U2 := hU
    have B2 := B1.tr hG
    clear hR hlo hdis hS hx ex eb hG hU B1 U1
    obtain ⟨c0, c1, -⟩ := cells2 (B2.blk (unhide K3).1)
    go_wp2_with fail
    refine (c_rd (M := na) ((unhide Ra).up U2) (by omega)).mono ?_
    rintro e w5 ⟨v5, rfl, n5, u5⟩
    obtain ⟨b5, ao5, m5, cap5, es⟩ := (n5.rd (Nat.le_refl _)).agg
    subst es
    have N5 := hide (n5.rd (Nat.le_refl _))
    clear n5
    go_wp2_with fail
    refine (text_rd (unhide N5) (by omega) ((unhide HT).up (U2.tr u5))).mono ?_
    rintro e w6 ⟨s6, rfl, u6, l6, t6⟩
    have H6 := hide t6
    clear t6
    go_wp2_with fail
    refine (parse_rd s6 Xa 18874400 w6 (unhide H6) (by omega) (by omega)).mono ?_
    rintro e w7 ⟨v7, rfl, n7, u7⟩
    obtain ⟨bp, aop, np, capp, es⟩ := (n7.rd (Nat.le_refl _)).agg
    subst es
    have D7 := ((u5.tr u6).tr u7).tr (up_alloc w7 (.cells #[.bool bp, .slice aop np capp] 26))
    have Tp : (w7.alloc (.cells #[.bool bp, .slice aop np capp] 26)).heap[w7.heap.size]? = some (.cells #[.bool bp, .slice aop np capp] 26 (0, 0)) := heap_alloc_new w7 _
    have Cp := hide (n7.rc.up (up_alloc w7 (.cells #[.bool bp, .slice aop np capp] 26)))
    replace Tz := D7.blk Tz
    have U3 := U2.tr D7
    have B3 := B2.tr D7
    clear n7 u5 u6 u7 D7 U2 B2 c0 c1 N5 H6 l6
    go_wp2_with fail
    refine wp_region_knd (by kernel_rfl) w U3 [[], [0], [1], [2], [3], [4], [5, 4], [6, 4], [4, 7], [8], [9], [9, 10], [11], [12], [12], [14, 12], [13, 15, 12], [16, 12], [12, 17], [18], [19], [19], [21, 19], [22, 19], [23, 22, 19], [20, 24, 19], [19, 25], [26], [27], [27, 28], [29]] (Knd.val [] (fun _ g _ => g.v = .pointer (some ⟨gz, 1, none⟩)) :: Knd.val [] (fun _ g _ => g.v = .slice aoz 0 capz) :: Knd.val [] (fun _ g _ => g.v = .int .i64 0) :: Knd.val [] (fun _ g _ => g.v = .bool true) :: Knd.val [] (fun _ g _ => g.v = .bool true) :: Knd.val [] (fun _ g _ => g.v = .pointer (some ⟨gz, 0, none⟩)) :: Knd.val [] (fun _ g _ => g.v = .bool false) :: Knd.val [] (fun _ g _ => g.v = .bool true) :: Knd.val [] (fun _ g _ => g.v = .bool true) :: Knd.val [] (fun _ g _ => g.v = .bool true) :: Knd.val [] (fun _ g _ => g.v = .bool true) :: Knd.val [] (fun _ g _ => g.v = .bool true) :: Knd.val [] (fun _ g _ => g.v = .bool true) :: Knd.val [] (fun _ g _ => g.v = .agg #[.bool bp, .slice aop np capp]) :: Knd.val [] (fun _ g _ => g.v = .agg #[.bool ba, .slice aoa na capa]) :: Knd.val [] (fun w g _ => NumD (Xa) (na) w g.lo g.hi g.v) :: Knd.val [] (fun _ g _ => g.v = .int .i64 (0)) :: Knd.val [] (fun _ g _ => g.v = .bool true) :: Knd.val [] (fun _ g _ => g.v = .bool true) :: Knd.val [] (fun _ g _ => g.v = .bool true) :: Knd.val [] (fun _ g _ => g.v = .agg #[.bool bp, .slice aop np capp]) :: Knd.val [] (fun _ g _ => g.v = .agg #[.bool ba, .slice aoa na capa]) :: Knd.val [] (fun w g _ => NumD (Xa) (na) w g.lo g.hi g.v) :: Knd.val [22] (fun w g vs => Pair1 w g vs) :: Knd.val [] (fun w g _ => NumIn (Xa) (na + 1) w g.lo g.hi g.v) :: Knd.val [] (fun _ g _ => g.v = .bool true) :: Knd.val [] (fun _ g _ => g.v = .bool true) :: Knd.val [] (fun _ g _ => g.v = .bool true) :: Knd.val [] (fun _ g _ => g.v = .bool true) :: Knd.val [] (fun _ g _ => g.v = .bool true) :: Knd.val [] (fun _ g _ => g.v = .bool true) :: []) (by kernel_rfl) (by kernel_rfl) rfl ⟨trivial, trivial, trivial, trivial, trivial, trivial, trivial, trivial, trivial, trivial, trivial, trivial, trivial, trivial, trivial, trivial, trivial, trivial, trivial, trivial, trivial, trivial, trivial, trivial, trivial, trivial, trivial, trivial, trivial, trivial, trivial, trivial⟩ ⟨fun _ _ _ _ _ h => h, fun _ _ _ _ _ h => h, fun _ _ _ _ _ h => h, fun _ _ _ _ _ h => h, fun _ _ _ _ _ h => h, fun _ _ _ _ _ h => h, fun _ _ _ _ _ h => h, fun _ _ _ _ _ h => h, fun _ _ _ _ _ h => h, fun _ _ _ _ _ h => h, fun _ _ _ _ _ h => h, fun _ _ _ _ _ h => h, fun _ _ _ _ _ h => h, fun _ _ _ _ _ h => h, fun _ _ _ _ _ h => h, fun _ _ _ _ hb h => h.keep hb, fun _ _ _ _ _ h => h, fun _ _ _ _ _ h => h, fun _ _ _ _ _ h => h, fun _ _ _ _ _ h => h, fun _ _ _ _ _ h => h, fun _ _ _ _ _ h => h, fun _ _ _ _ hb h => h.keep hb, fun _ _ _ _ hb h => h.keep hb, fun _ _ _ _ hb h => h.keep hb, fun _ _ _ _ _ h => h, fun _ _ _ _ _ h => h, fun _ _ _ _ _ h => h, fun _ _ _ _ _ h => h, fun _ _ _ _ _ h => h, fun _ _ _ _ _ h => h, trivial⟩ ⟨?_, ?_, ?_, ?_, ?_, ?_, ?_, ?_, ?_, ?_, ?_, ?_, ?_, ?_, ?_, ?_, ?_, ?_, ?_, ?_, ?_, ?_, ?_, ?_, ?_, ?_, ?_, ?_, ?_, ?_, ?_, trivial⟩ ?_
    · intro x w1 K hU hS hO hd hK
      clear hd
      refine Veil.mk ?_; simp only [kgoal, putsFrom, depsOf, pu0, pu1, pu2, pu3, Nat.zero_add, Nat.reduceAdd, Nat.reduceBEq, Bool.or_false, Bool.false_or, Bool.or_true, Bool.true_or, Bool.false_eq_true, ↓reduceIte, Act.put, List.setIfInBounds_toArray, List.set_cons_zero, List.set_cons_succ]
      go_simp
      exact hK _ _ (Up.refl _) rfl
    · intro x w1 K hU hS hO hd hK
      have h0 : (x 0).v = .pointer (some ⟨gz, 1, none⟩) := kval (hd 0 (by decide)).1 rfl
      obtain ⟨k0, k1, -⟩ := cells2 ((Up.tr (up_drew _) (hS.upb rfl)).blk Tz)
      clear hd
      refine Veil.mk ?_; simp only [kgoal, putsFrom, depsOf, pu0, pu1, pu2, pu3, Nat.zero_add, Nat.reduceAdd, Nat.reduceBEq, Bool.or_false, Bool.false_or, Bool.or_true, Bool.true_or, Bool.false_eq_true, ↓reduceIte, Act.put, List.setIfInBounds_toArray, List.set_cons_zero, List.set_cons_succ]
      simp only [h0]
      go_simp
      exact hK _ _ (Up.refl _) rfl
    · intro x w1 K hU hS hO hd hK
      have h1 : (x 1).v = .slice aoz 0 capz := kval (hd 1 (by decide)).1 rfl
      clear hd
      refine Veil.mk ?_; simp only [kgoal, putsFrom, depsOf, pu0, pu1, pu2, pu3, Nat.zero_add, Nat.reduceAdd, Nat.reduceBEq, Bool.or_false, Bool.false_or, Bool.or_true, Bool.true_or, Bool.false_eq_true, ↓reduceIte, Act.put, List.setIfInBounds_toArray, List.set_cons_zero, List.set_cons_succ]
      simp only [h1]
      go_simp
      exact hK _ _ (Up.refl _) rfl
    · intro x w1 K hU hS hO hd hK
      have h2 : (x 2).v = .int .i64 0 := kval (hd 2 (by decide)).1 rfl
      clear hd
      refine Veil.mk ?_; simp only [kgoal, putsFrom, depsOf, pu0, pu1, pu2, pu3, Nat.zero_add, Nat.reduceAdd, Nat.reduceBEq, Bool.or_false, Bool.false_or, Bool.or_true, Bool.true_or, Bool.false_eq_true, ↓reduceIte, Act.put, List.setIfInBounds_toArray, List.set_cons_zero, List.set_cons_succ]
      simp only [h2]
      go_simp
      exact hK _ _ (Up.refl _) rfl
    · intro x w1 K hU hS hO hd hK
      have h3 : (x 3).v = .bool true := kval (hd 3 (by decide)).1 rfl
      clear hd
      refine Veil.mk ?_; simp only [kgoal, putsFrom, depsOf, pu0, pu1, pu2, pu3, Nat.zero_add, Nat.reduceAdd, Nat.reduceBEq, Bool.or_false, Bool.false_or, Bool.or_true, Bool.true_or, Bool.false_eq_true, ↓reduceIte, Act.put, List.setIfInBounds_toArray, List.set_cons_zero, List.set_cons_succ]
      simp only [h3]
      go_simp
      exact hK _ _ (Up.refl _) rfl
    · intro x w1 K hU hS hO hd hK
      have h4 : (x 4).v = .bool true := kval (hd 4 (by decide)).1 rfl
      clear hd
      refine Veil.mk ?_; simp only [kgoal, putsFrom, depsOf, pu0, pu1, pu2, pu3, Nat.zero_add, Nat.reduceAdd, Nat.reduceBEq, Bool.or_false, Bool.false_or, Bool.or_true, Bool.true_or, Bool.false_eq_true, ↓reduceIte, Act.put, List.setIfInBounds_toArray, List.set_cons_zero, List.set_cons_succ]
      simp only [h4]
      rw [if_pos (by rfl)]
      go_simp
      exact hK _ _ (Up.refl _) rfl
    · intro x w1 K hU hS hO hd hK
      have h5 : (x 5).v = .pointer (some ⟨gz, 0, none⟩) := kval (hd 5 (by decide)).1 rfl
      have h4 : (x 4).v = .bool true := kval (hd 4 (by decide)).1 rfl
      obtain ⟨k0, k1, -⟩ := cells2 ((Up.tr (up_drew _) (hS.upb rfl)).blk Tz)
      clear hd
      refine Veil.mk ?_; simp only [kgoal, putsFrom, depsOf, pu0, pu1, pu2, pu3, Nat.zero_add, Nat.reduceAdd, Nat.reduceBEq, Bool.or_false, Bool.false_or, Bool.or_true, Bool.true_or, Bool.false_eq_true, ↓reduceIte, Act.put, List.setIfInBounds_toArray, List.set_cons_zero, List.set_cons_succ]
      simp only [h5, h4]
      rw [if_pos (by rfl)]
      go_simp
      exact hK _ _ (Up.refl _) rfl
    · intro x w1 K hU hS hO hd hK
      have h6 : (x 6).v = .bool false := kval (hd 6 (by decide)).1 rfl
      have h4 : (x 4).v = .bool true := kval (hd 4 (by decide)).1 rfl
      clear hd
      refine Veil.mk ?_; simp only [kgoal, putsFrom, depsOf, pu0, pu1, pu2, pu3, Nat.zero_add, Nat.reduceAdd, Nat.reduceBEq, Bool.or_false, Bool.false_or, Bool.or_true, Bool.true_or, Bool.false_eq_true, ↓reduceIte, Act.put, List.setIfInBounds_toArray, List.set_cons_zero, List.set_cons_succ]
      simp only [h6, h4]
      rw [if_pos (by rfl)]
      go_simp
      exact hK _ _ (Up.refl _) rfl
    · intro x w1 K hU hS hO hd hK
      have h4 : (x 4).v = .bool true := kval (hd 4 (by decide)).1 rfl
      have h7 : (x 7).v = .bool true := kval (hd 7 (by decide)).1 rfl
      clear hd
      refine Veil.mk ?_; simp only [kgoal, putsFrom, depsOf, pu0, pu1, pu2, pu3, Nat.zero_add, Nat.reduceAdd, Nat.reduceBEq, Bool.or_false, Bool.false_or, Bool.or_true, Bool.true_or, Bool.false_eq_true, ↓reduceIte, Act.put, List.setIfInBounds_toArray, List.set_cons_zero, List.set_cons_succ]
      simp only [h4, h7]
      go_simp
      exact hK _ _ (Up.refl _) rfl
    · intro x w1 K hU hS hO hd hK
      have h8 : (x 8).v = .bool true := kval (hd 8 (by decide)).1 rfl
      clear hd
      refine Veil.mk ?_; simp only [kgoal, putsFrom, depsOf, pu0, pu1, pu2, pu3, Nat.zero_add, Nat.reduceAdd, Nat.reduceBEq, Bool.or_false, Bool.false_or, Bool.or_true, Bool.true_or, Bool.false_eq_true, ↓reduceIte, Act.put, List.setIfInBounds_toArray, List.set_cons_zero, List.set_cons_succ]
      simp only [h8]
      go_simp
      exact hK _ _ (Up.refl _) rfl
    · intro x w1 K hU hS hO hd hK
      have h9 : (x 9).v = .bool true := kval (hd 9 (by decide)).1 rfl
      clear hd
      refine Veil.mk ?_; simp only [kgoal, putsFrom, depsOf, pu0, pu1, pu2, pu3, Nat.zero_add, Nat.reduceAdd, Nat.reduceBEq, Bool.or_false, Bool.false_or, Bool.or_true, Bool.true_or, Bool.false_eq_true, ↓reduceIte, Act.put, List.setIfInBounds_toArray, List.set_cons_zero, List.set_cons_succ]
      simp only [h9]
      rw [if_pos (by rfl)]
      go_simp
      exact hK _ _ (Up.refl _) rfl
    · intro x w1 K hU hS hO hd hK
      have h9 : (x 9).v = .bool true := kval (hd 9 (by decide)).1 rfl
      have h10 : (x 10).v = .bool true := kval (hd 10 (by decide)).1 rfl
      clear hd
      refine Veil.mk ?_; simp only [kgoal, putsFrom, depsOf, pu0, pu1, pu2, pu3, Nat.zero_add, Nat.reduceAdd, Nat.reduceBEq, Bool.or_false, Bool.false_or, Bool.or_true, Bool.true_or, Bool.false_eq_true, ↓reduceIte, Act.put, List.setIfInBounds_toArray, List.set_cons_zero, List.set_cons_succ]
      simp only [h9, h10]
      go_simp
      exact hK _ _ (Up.refl _) rfl
    · intro x w1 K hU hS hO hd hK
      have h11 : (x 11).v = .bool true := kval (hd 11 (by decide)).1 rfl
      clear hd
      refine Veil.mk ?_; simp only [kgoal, putsFrom, depsOf, pu0, pu1, pu2, pu3, Nat.zero_add, Nat.reduceAdd, Nat.reduceBEq, Bool.or_false, Bool.false_or, Bool.or_true, Bool.true_or, Bool.false_eq_true, ↓reduceIte, Act.put, List.setIfInBounds_toArray, List.set_cons_zero, List.set_cons_succ]
      simp only [h11]
      go_simp
      exact hK _ _ (Up.refl _) rfl
    · intro x w1 K hU hS hO hd hK
      have h12 : (x 12).v = .bool true := kval (hd 12 (by decide)).1 rfl
      obtain ⟨k0, k1, -⟩ := cells2 ((Up.tr (up_drew _) (hS.upb rfl)).blk Tp)
      clear hd
      refine Veil.mk ?_; simp only [kgoal, putsFrom, depsOf, pu0, pu1, pu2, pu3, Nat.zero_add, Nat.reduceAdd, Nat.reduceBEq, Bool.or_false, Bool.false_or, Bool.or_true, Bool.true_or, Bool.false_eq_true, ↓reduceIte, Act.put, List.setIfInBounds_toArray, List.set_cons_zero, List.set_cons_succ]
      simp only [h12]
      rw [if_pos (by rfl)]
      go_simp
      exact hK _ _ (Up.refl _) rfl
    · intro x w1 K hU hS hO hd hK
      have h12 : (x 12).v = .bool true := kval (hd 12 (by decide)).1 rfl
      obtain ⟨k0, k1, -⟩ := cells2 ((B3.tr (Up.tr (up_drew _) (hS.upb rfl))).blk (unhide K3).1)
      clear hd
      refine Veil.mk ?_; simp only [kgoal, putsFrom, depsOf, pu0, pu1, pu2, pu3, Nat.zero_add, Nat.reduceAdd, Nat.reduceBEq, Bool.or_false, Bool.false_or, Bool.or_true, Bool.true_or, Bool.false_eq_true, ↓reduceIte, Act.put, List.setIfInBounds_toArray, List.set_cons_zero, List.set_cons_succ]
      simp only [h12]
      rw [if_pos (by rfl)]
      go_simp
      exact hK _ _ (Up.refl _) rfl
    · intro x w1 K hU hS hO hd hK
      have h14 : (x 14).v = .agg #[.bool ba, .slice aoa na capa] := kval (hd 14 (by decide)).1 rfl
      have h12 : (x 12).v = .bool true := kval (hd 12 (by decide)).1 rfl
      clear hd
      refine Veil.mk ?_; simp only [kgoal, putsFrom, depsOf, pu0, pu1, pu2, pu3, Nat.zero_add, Nat.reduceAdd, Nat.reduceBEq, Bool.or_false, Bool.false_or, Bool.or_true, Bool.true_or, Bool.false_eq_true, ↓reduceIte, Act.put, List.setIfInBounds_toArray, List.set_cons_zero, List.set_cons_succ]
      simp only [h14, h12]
      rw [if_pos (by rfl)]
      go_simp
      refine (c_rd (M := na) (((unhide Ra).up hU)) (by omega)).mono ?_
      rintro e w2 ⟨v2, rfl, n2, u2⟩
      exact hK _ _ u2 n2
    · intro x w1 K hU hS hO hd hK
      have h13 : (x 13).v = .agg #[.bool bp, .slice aop np capp] := kval (hd 13 (by decide)).1 rfl
      have h15 : NumD (Xa) (na) w1 (x 15).lo (x 15).hi (x 15).v := kval (hd 15 (by decide)).1 rfl
      have h12 : (x 12).v = .bool true := kval (hd 12 (by decide)).1 rfl
      clear hd
      refine Veil.mk ?_; simp only [kgoal, putsFrom, depsOf, pu0, pu1, pu2, pu3, Nat.zero_add, Nat.reduceAdd, Nat.reduceBEq, Bool.or_false, Bool.false_or, Bool.or_true, Bool.true_or, Bool.false_eq_true, ↓reduceIte, Act.put, List.setIfInBounds_toArray, List.set_cons_zero, List.set_cons_succ]
      simp only [h13, h12]
      rw [if_pos (by rfl)]
      go_simp
      refine (cmp_rd (M := 18874400) (((unhide Cp).rd (M' := 18874400) (by omega)).up (Up.tr (up_drew _) (hS.upb rfl))) (h15.rd (by omega))).mono ?_
      rintro e w2 ⟨v2, rfl, n2, u2⟩
      rw [cmpZ_self] at n2
      exact hK _ _ u2 n2
    · intro x w1 K hU hS hO hd hK
      have h16 : (x 16).v = .int .i64 (0) := kval (hd 16 (by decide)).1 rfl
      have h12 : (x 12).v = .bool true := kval (hd 12 (by decide)).1 rfl
      clear hd
      refine Veil.mk ?_; simp only [kgoal, putsFrom, depsOf, pu0, pu1, pu2, pu3, Nat.zero_add, Nat.reduceAdd, Nat.reduceBEq, Bool.or_false, Bool.false_or, Bool.or_true, Bool.true_or, Bool.false_eq_true, ↓reduceIte, Act.put, List.setIfInBounds_toArray, List.set_cons_zero, List.set_cons_succ]
      simp only [h16, h12]
      rw [if_pos (by rfl)]
      go_simp
      exact hK _ _ (Up.refl _) rfl
    · intro x w1 K hU hS hO hd hK
      have h12 : (x 12).v = .bool true := kval (hd 12 (by decide)).1 rfl
      have h17 : (x 17).v = .bool true := kval (hd 17 (by decide)).1 rfl
      clear hd
      refine Veil.mk ?_; simp only [kgoal, putsFrom, depsOf, pu0, pu1, pu2, pu3, Nat.zero_add, Nat.reduceAdd, Nat.reduceBEq, Bool.or_false, Bool.false_or, Bool.or_true, Bool.true_or, Bool.false_eq_true, ↓reduceIte, Act.put, List.setIfInBounds_toArray, List.set_cons_zero, List.set_cons_succ]
      simp only [h12, h17]
      go_simp
      exact hK _ _ (Up.refl _) rfl
    · intro x w1 K hU hS hO hd hK
      have h18 : (x 18).v = .bool true := kval (hd 18 (by decide)).1 rfl
      clear hd
      refine Veil.mk ?_; simp only [kgoal, putsFrom, depsOf, pu0, pu1, pu2, pu3, Nat.zero_add, Nat.reduceAdd, Nat.reduceBEq, Bool.or_false, Bool.false_or, Bool.or_true, Bool.true_or, Bool.false_eq_true, ↓reduceIte, Act.put, List.setIfInBounds_toArray, List.set_cons_zero, List.set_cons_succ]
      simp only [h18]
      go_simp
      exact hK _ _ (Up.refl _) rfl
    · intro x w1 K hU hS hO hd hK
      have h19 : (x 19).v = .bool true := kval (hd 19 (by decide)).1 rfl
      obtain ⟨k0, k1, -⟩ := cells2 ((Up.tr (up_drew _) (hS.upb rfl)).blk Tp)
      clear hd
      refine Veil.mk ?_; simp only [kgoal, putsFrom, depsOf, pu0, pu1, pu2, pu3, Nat.zero_add, Nat.reduceAdd, Nat.reduceBEq, Bool.or_false, Bool.false_or, Bool.or_true, Bool.true_or, Bool.false_eq_true, ↓reduceIte, Act.put, List.setIfInBounds_toArray, List.set_cons_zero, List.set_cons_succ]
      simp only [h19]
      rw [if_pos (by rfl)]
      go_simp
      exact hK _ _ (Up.refl _) rfl
    · intro x w1 K hU hS hO hd hK
      have h19 : (x 19).v = .bool true := kval (hd 19 (by decide)).1 rfl
      obtain ⟨k0, k1, -⟩ := cells2 ((B3.tr (Up.tr (up_drew _) (hS.upb rfl))).blk (unhide K3).1)
      clear hd
      refine Veil.mk ?_; simp only [kgoal, putsFrom, depsOf, pu0, pu1, pu2, pu3, Nat.zero_add, Nat.reduceAdd, Nat.reduceBEq, Bool.or_false, Bool.false_or, Bool.or_true, Bool.true_or, Bool.false_eq_true, ↓reduceIte, Act.put, List.setIfInBounds_toArray, List.set_cons_zero, List.set_cons_succ]
      simp only [h19]
      rw [if_pos (by rfl)]
      go_simp
      exact hK _ _ (Up.refl _) rfl
    · intro x w1 K hU hS hO hd hK
      have h21 : (x 21).v = .agg #[.bool ba, .slice aoa na capa] := kval (hd 21 (by decide)).1 rfl
      have h19 : (x 19).v = .bool true := kval (hd 19 (by decide)).1 rfl
      clear hd
      refine Veil.mk ?_; simp only [kgoal, putsFrom, depsOf, pu0, pu1, pu2, pu3, Nat.zero_add, Nat.reduceAdd, Nat.reduceBEq, Bool.or_false, Bool.false_or, Bool.or_true, Bool.true_or, Bool.false_eq_true, ↓reduceIte, Act.put, List.setIfInBounds_toArray, List.set_cons_zero, List.set_cons_succ]
      simp only [h21, h19]
      rw [if_pos (by rfl)]
      go_simp
      refine (c_rd (M := na) (((unhide Ra).up hU)) (by omega)).mono ?_
      rintro e w2 ⟨v2, rfl, n2, u2⟩
      exact hK _ _ u2 n2
    · intro x w1 K hU hS hO hd hK
      have h22 : NumD (Xa) (na) w1 (x 22).lo (x 22).hi (x 22).v := kval (hd 22 (by decide)).1 rfl
      have h19 : (x 19).v = .bool true := kval (hd 19 (by decide)).1 rfl
      obtain ⟨pa, qa, ra, ta, ea⟩ := (h22.rd (Nat.le_refl _)).agg
      clear hd
      refine Veil.mk ?_; simp only [kgoal, putsFrom, depsOf, pu0, pu1, pu2, pu3, Nat.zero_add, Nat.reduceAdd, Nat.reduceBEq, Bool.or_false, Bool.false_or, Bool.or_true, Bool.true_or, Bool.false_eq_true, ↓reduceIte, Act.put, List.setIfInBounds_toArray, List.set_cons_zero, List.set_cons_succ]
      simp only [ea, h19]
      rw [if_pos (by rfl)]
      go_simp
      exact hK _ _ (up_alloc _ _) ⟨rfl, by show w1.heap.size < (w1.alloc _).heap.size; simp, _, _, by show [(x 22).v] = _; rw [ea], heap_alloc_new w1 _⟩
    · intro x w1 K hU hS hO hd hK
      have h23 : Pair1 w1 (x 23) [(x 22).v] := kval (hd 23 (by decide)).1 rfl
      have h22 : NumD (Xa) (na) w1 (x 22).lo (x 22).hi (x 22).v := kval (hd 22 (by decide)).1 rfl
      have h19 : (x 19).v = .bool true := kval (hd 19 (by decide)).1 rfl
      obtain ⟨ep, -, b1, v1, ql, hb⟩ := h23
      have ea := (List.cons.inj ql).1
      rw [ea] at h22
      clear hd
      refine Veil.mk ?_; simp only [kgoal, putsFrom, depsOf, pu0, pu1, pu2, pu3, Nat.zero_add, Nat.reduceAdd, Nat.reduceBEq, Bool.or_false, Bool.false_or, Bool.or_true, Bool.true_or, Bool.false_eq_true, ↓reduceIte, Act.put, List.setIfInBounds_toArray, List.set_cons_zero, List.set_cons_succ]
      simp only [ep, h19]
      rw [if_pos (by rfl)]
      go_simp
      refine (add1_rd (M := na) hb (h22.rd (by omega)) (by omega)).mono ?_
      rintro e w2 ⟨v2, rfl, n2, u2⟩
      exact hK _ _ u2 n2
    · intro x w1 K hU hS hO hd hK
      have h20 : (x 20).v = .agg #[.bool bp, .slice aop np capp] := kval (hd 20 (by decide)).1 rfl
      have h24 : NumIn (Xa) (na + 1) w1 (x 24).lo (x 24).hi (x 24).v := kval (hd 24 (by decide)).1 rfl
      have h19 : (x 19).v = .bool true := kval (hd 19 (by decide)).1 rfl
      clear hd
      refine Veil.mk ?_; simp only [kgoal, putsFrom, depsOf, pu0, pu1, pu2, pu3, Nat.zero_add, Nat.reduceAdd, Nat.reduceBEq, Bool.or_false, Bool.false_or, Bool.or_true, Bool.true_or, Bool.false_eq_true, ↓reduceIte, Act.put, List.setIfInBounds_toArray, List.set_cons_zero, List.set_cons_succ]
      simp only [h20, h19]
      rw [if_pos (by rfl)]
      go_simp
      refine (same_rd ((unhide Cp).up (Up.tr (up_drew _) (hS.upb rfl))) h24.rc (rfl)).mono ?_
      rintro e w2 ⟨v2, rfl, n2, u2⟩
      exact hK _ _ u2 n2
    · intro x w1 K hU hS hO hd hK
      have h19 : (x 19).v = .bool true := kval (hd 19 (by decide)).1 rfl
      have h25 : (x 25).v = .bool true := kval (hd 25 (by decide)).1 rfl
      clear hd
      refine Veil.mk ?_; simp only [kgoal, putsFrom, depsOf, pu0, pu1, pu2, pu3, Nat.zero_add, Nat.reduceAdd, Nat.reduceBEq, Bool.or_false, Bool.false_or, Bool.or_true, Bool.true_or, Bool.false_eq_true, ↓reduceIte, Act.put, List.setIfInBounds_toArray, List.set_cons_zero, List.set_cons_succ]
      simp only [h19, h25]
      go_simp
      exact hK _ _ (Up.refl _) rfl
    · intro x w1 K hU hS hO hd hK
      have h26 : (x 26).v = .bool true := kval (hd 26 (by decide)).1 rfl
      clear hd
      refine Veil.mk ?_; simp only [kgoal, putsFrom, depsOf, pu0, pu1, pu2, pu3, Nat.zero_add, Nat.reduceAdd, Nat.reduceBEq, Bool.or_false, Bool.false_or, Bool.or_true, Bool.true_or, Bool.false_eq_true, ↓reduceIte, Act.put, List.setIfInBounds_toArray, List.set_cons_zero, List.set_cons_succ]
      simp only [h26]
      go_simp
      exact hK _ _ (Up.refl _) rfl
    · intro x w1 K hU hS hO hd hK
      have h27 : (x 27).v = .bool true := kval (hd 27 (by decide)).1 rfl
      clear hd
      refine Veil.mk ?_; simp only [kgoal, putsFrom, depsOf, pu0, pu1, pu2, pu3, Nat.zero_add, Nat.reduceAdd, Nat.reduceBEq, Bool.or_false, Bool.false_or, Bool.or_true, Bool.true_or, Bool.false_eq_true, ↓reduceIte, Act.put, List.setIfInBounds_toArray, List.set_cons_zero, List.set_cons_succ]
      simp only [h27]
      rw [if_pos (by rfl)]
      go_simp
      refine (awake_rd ((unhide HT).up hU)).mono ?_
      rintro e w2 ⟨v2, rfl, n2, u2⟩
      exact hK _ _ u2 n2
    · intro x w1 K hU hS hO hd hK
      have h27 : (x 27).v = .bool true := kval (hd 27 (by decide)).1 rfl
      have h28 : (x 28).v = .bool true := kval (hd 28 (by decide)).1 rfl
      clear hd
      refine Veil.mk ?_; simp only [kgoal, putsFrom, depsOf, pu0, pu1, pu2, pu3, Nat.zero_add, Nat.reduceAdd, Nat.reduceBEq, Bool.or_false, Bool.false_or, Bool.or_true, Bool.true_or, Bool.false_eq_true, ↓reduceIte, Act.put, List.setIfInBounds_toArray, List.set_cons_zero, List.set_cons_succ]
      simp only [h27, h28]
      go_simp
      exact hK _ _ (Up.refl _) rfl
    · intro x w1 K hU hS hO hd hK
      have h29 : (x 29).v = .bool true := kval (hd 29 (by decide)).1 rfl
      clear hd
      refine Veil.mk ?_; simp only [kgoal, putsFrom, depsOf, pu0, pu1, pu2, pu3, Nat.zero_add, Nat.reduceAdd, Nat.reduceBEq, Bool.or_false, Bool.false_or, Bool.or_true, Bool.true_or, Bool.false_eq_true, ↓reduceIte, Act.put, List.setIfInBounds_toArray, List.set_cons_zero, List.set_cons_succ]
      simp only [h29]
      go_simp
      exact hK _ _ (Up.refl _) rfl
    intro x w1 hU hS hR hlo hdis
    have hfin : (x 30).v = .bool true := kval (hR 30 (by decide)) rfl
    have hG := Up.tr (up_drew _) (hS.upb rfl)
    refine Veil.mk ?_; simp only [kgoal, putsFrom, depsOf, pu0, pu1, pu2, pu3, Nat.zero_add, Nat.reduceAdd, Nat.reduceBEq, Bool.or_false, Bool.false_or, Bool.or_true, Bool.true_or, Bool.false_eq_true, ↓reduceIte, Act.put, List.setIfInBounds_toArray, List.set_cons_zero, List.set_cons_succ]
    rw [hfin]
    generalize (x 0).v = z0v
    generalize (x 1).v = z1v
    generalize (x 2).v = z2v
    generalize (x 3).v = z3v
    generalize (x 4).v = z4v
    generalize (x 5).v = z5v
    generalize (x 6).v = z6v
    generalize (x 7).v = z7v
    generalize (x 8).v = z8v
    generalize (x 9).v = z9v
    generalize (x 10).v = z10v
    generalize (x 11).v = z11v
    generalize (x 12).v = z12v
    generalize (x 13).v = z13v
    generalize (x 14).v = z14v
    generalize (x 15).v = z15v
    generalize (x 16).v = z16v
    generalize (x 17).v = z17v
    generalize (x 18).v = z18v
    generalize (x 19).v = z19v
    generalize (x 20).v = z20v
    generalize (x 21).v = z21v
    generalize (x 22).v = z22v
    generalize (x 23).v = z23v
    generalize (x 24).v = z24v
    generalize (x 25).v = z25v
    generalize (x 26).v = z26v
    generalize (x 27).v = z27v
    generalize (x 28).v = z28v
    generalize (x 29).v = z29v
    clear hR hlo hdis hS hfin
    go_wp2_with fail
    go_ret
    exact ⟨rfl, hU⟩

  · have hc1 : cmpZ Xa Xb = 1 := cmpZ_gt hlt
    have hc2 : cmpZ Xb Xa = -1 := cmpZ_lt hlt
    have hc3 : cmpZ (Xa + Xd) (Xb + Xd) = 1 := cmpZ_gt (by omega)
    clear hlt
    refine wp_region_knd (by kernel_rfl) w U0 [[], [0], [], [2], [1, 3], [], [5], [], [7], [6, 8], [9], [4, 10], [11], [12], [13, 12], [12], [15, 12], [14, 16, 12], [17, 14, 16, 12], [12], [19, 12], [12], [21, 12], [20, 22, 12], [23, 20, 22, 12], [18, 24, 12], [12], [26, 12], [12], [28, 12], [27, 29, 12], [25, 30, 12], [12, 31]] (Knd.val [] (fun _ g _ => g.v = .agg #[.bool ba, .slice aoa na capa]) :: Knd.val [] (fun w g _ => NumD (Xa) (na) w g.lo g.hi g.v) :: Knd.val [] (fun _ g _ => g.v = .agg #[.bool bb, .slice aob nb capb]) :: Knd.val [] (fun w g _ => NumD (Xb) (nb) w g.lo g.hi g.v) :: Knd.val [] (fun _ g _ => g.v = .int .i64 (1)) :: Knd.val [] (fun _ g _ => g.v = .agg #[.bool bb, .slice aob nb capb]) :: Knd.val [] (fun w g _ => NumD (Xb) (nb) w g.lo g.hi g.v) :: Knd.val [] (fun _ g _ => g.v = .agg #[.bool ba, .slice aoa na capa]) :: Knd.val [] (fun w g _ => NumD (Xa) (na) w g.lo g.hi g.v) :: Knd.val [] (fun _ g _ => g.v = .int .i64 (-1)) :: Knd.val [] (fun _ g _ => g.v = .int .i64 (1)) :: Knd.val [] (fun _ g _ => g.v = .bool false) :: Knd.val [] (fun _ g _ => g.v = .bool false) :: Knd.val [] (fun _ g _ => g.v = .agg #[.bool ba, .slice aoa na capa]) :: Knd.val [] (fun w g _ => NumD (Xa) (na) w g.lo g.hi g.v) :: Knd.val [] (fun _ g _ => g.v = .agg #[.bool bd, .slice aod nd capd]) :: Knd.val [] (fun w g _ => NumD (Xd) (nd) w g.lo g.hi g.v) :: Knd.val [14, 16] (fun w g vs => Pair2 w g vs) :: Knd.val [] (fun w g _ => NumIn (Xa + Xd) (1048576 + 1) w g.lo g.hi g.v) :: Knd.val [] (fun _ g _ => g.v = .agg #[.bool bb, .slice aob nb capb]) :: Knd.val [] (fun w g _ => NumD (Xb) (nb) w g.lo g.hi g.v) :: Knd.val [] (fun _ g _ => g.v = .agg #[.bool bd, .slice aod nd capd]) :: Knd.val [] (fun w g _ => NumD (Xd) (nd) w g.lo g.hi g.v) :: Knd.val [20, 22] (fun w g vs => Pair2 w g vs) :: Knd.val [] (fun w g _ => NumIn (Xb + Xd) (1048576 + 1) w g.lo g.hi g.v) :: Knd.val [] (fun _ g _ => g.v = .int .i64 (1)) :: Knd.val [] (fun _ g _ => g.v = .agg #[.bool ba, .slice aoa na capa]) :: Knd.val [] (fun w g _ => NumD (Xa) (na) w g.lo g.hi g.v) :: Knd.val [] (fun _ g _ => g.v = .agg #[.bool bb, .slice aob nb capb]) :: Knd.val [] (fun w g _ => NumD (Xb) (nb) w g.lo g.hi g.v) :: Knd.val [] (fun _ g _ => g.v = .int .i64 (1)) :: Knd.val [] (fun _ g _ => g.v = .bool false) :: Knd.val [] (fun _ g _ => g.v = .bool false) :: []) (by kernel_rfl) (by kernel_rfl) rfl ⟨trivial, trivial, trivial, trivial, trivial, trivial, trivial, trivial, trivial, trivial, trivial, trivial, trivial, trivial, trivial, trivial, trivial, trivial, trivial, trivial, trivial, trivial, trivial, trivial, trivial, trivial, trivial, trivial, trivial, trivial, trivial, trivial, trivial, trivial⟩ ⟨fun _ _ _ _ _ h => h, fun _ _ _ _ hb h => h.keep hb, fun _ _ _ _ _ h => h, fun _ _ _ _ hb h => h.keep hb, fun _ _ _ _ _ h => h, fun _ _ _ _ _ h => h, fun _ _ _ _ hb h => h.keep hb, fun _ _ _ _ _ h => h, fun _ _ _ _ hb h => h.keep hb, fun _ _ _ _ _ h => h, fun _ _ _ _ _ h => h, fun _ _ _ _ _ h => h, fun _ _ _ _ _ h => h, fun _ _ _ _ _ h => h, fun _ _ _ _ hb h => h.keep hb, fun _ _ _ _ _ h => h, fun _ _ _ _ hb h => h.keep hb, fun _ _ _ _ hb h => h.keep hb, fun _ _ _ _ hb h => h.keep hb, fun _ _ _ _ _ h => h, fun _ _ _ _ hb h => h.keep hb, fun _ _ _ _ _ h => h, fun _ _ _ _ hb h => h.keep hb, fun _ _ _ _ hb h => h.keep hb, fun _ _ _ _ hb h => h.keep hb, fun _ _ _ _ _ h => h, fun _ _ _ _ _ h => h, fun _ _ _ _ hb h => h.keep hb, fun _ _ _ _ _ h => h, fun _ _ _ _ hb h => h.keep hb, fun _ _ _ _ _ h => h, fun _ _ _ _ _ h => h, fun _ _ _ _ _ h => h, trivial⟩ ⟨?_, ?_, ?_, ?_, ?_, ?_, ?_, ?_, ?_, ?_, ?_, ?_, ?_, ?_, ?_, ?_, ?_, ?_, ?_, ?_, ?_, ?_, ?_, ?_, ?_, ?_, ?_, ?_, ?_, ?_, ?_, ?_, ?_, trivial⟩ ?_
    · intro x w1 K hU hS hO hd hK
      obtain ⟨k0, k1, -⟩ := cells2 ((Up.tr (up_drew _) (hS.upb rfl)).blk (unhide K3).1)
      clear hd
      refine Veil.mk ?_; simp only [kgoal, putsFrom, depsOf, pu0, pu1, pu2, pu3, Nat.zero_add, Nat.reduceAdd, Nat.reduceBEq, Bool.or_false, Bool.false_or, Bool.or_true, Bool.true_or, Bool.false_eq_true, ↓reduceIte, Act.put, List.setIfInBounds_toArray, List.set_cons_zero, List.set_cons_succ]
      go_simp
      exact hK _ _ (Up.refl _) rfl
    · intro x w1 K hU hS hO hd hK
      have h0 : (x 0).v = .agg #[.bool ba, .slice aoa na capa] := kval (hd 0 (by decide)).1 rfl
      clear hd
      refine Veil.mk ?_; simp only [kgoal, putsFrom, depsOf, pu0, pu1, pu2, pu3, Nat.zero_add, Nat.reduceAdd, Nat.reduceBEq, Bool.or_false, Bool.false_or, Bool.or_true, Bool.true_or, Bool.false_eq_true, ↓reduceIte, Act.put, List.setIfInBounds_toArray, List.set_cons_zero, List.set_cons_succ]
      simp only [h0]
      go_simp
      refine (c_rd (M := na) (((unhide Ra).up hU)) (by omega)).mono ?_
      rintro e w2 ⟨v2, rfl, n2, u2⟩
      exact hK _ _ u2 n2
    · intro x w1 K hU hS hO hd hK
      obtain ⟨k0, k1, -⟩ := cells2 ((Up.tr (up_drew _) (hS.upb rfl)).blk (unhide K3).2.1)
      clear hd
      refine Veil.mk ?_; simp only [kgoal, putsFrom, depsOf, pu0, pu1, pu2, pu3, Nat.zero_add, Nat.reduceAdd, Nat.reduceBEq, Bool.or_false, Bool.false_or, Bool.or_true, Bool.true_or, Bool.false_eq_true, ↓reduceIte, Act.put, List.setIfInBounds_toArray, List.set_cons_zero, List.set_cons_succ]
      go_simp
      exact hK _ _ (Up.refl _) rfl
    · intro x w1 K hU hS hO hd hK
      have h2 : (x 2).v = .agg #[.bool bb, .slice aob nb capb] := kval (hd 2 (by decide)).1 rfl
      clear hd
      refine Veil.mk ?_; simp only [kgoal, putsFrom, depsOf, pu0, pu1, pu2, pu3, Nat.zero_add, Nat.reduceAdd, Nat.reduceBEq, Bool.or_false, Bool.false_or, Bool.or_true, Bool.true_or, Bool.false_eq_true, ↓reduceIte, Act.put, List.setIfInBounds_toArray, List.set_cons_zero, List.set_cons_succ]
      simp only [h2]
      go_simp
      refine (c_rd (M := nb) (((unhide Rb).up hU)) (by omega)).mono ?_
      rintro e w2 ⟨v2, rfl, n2, u2⟩
      exact hK _ _ u2 n2
    · intro x w1 K hU hS hO hd hK
      have h1 : NumD (Xa) (na) w1 (x 1).lo (x 1).hi (x 1).v := kval (hd 1 (by decide)).1 rfl
      have h3 : NumD (Xb) (nb) w1 (x 3).lo (x 3).hi (x 3).v := kval (hd 3 (by decide)).1 rfl
      clear hd
      refine Veil.mk ?_; simp only [kgoal, putsFrom, depsOf, pu0, pu1, pu2, pu3, Nat.zero_add, Nat.reduceAdd, Nat.reduceBEq, Bool.or_false, Bool.false_or, Bool.or_true, Bool.true_or, Bool.false_eq_true, ↓reduceIte, Act.put, List.setIfInBounds_toArray, List.set_cons_zero, List.set_cons_succ]
      go_simp
      refine (cmp_rd (M := 1048576) (h1.rd (by omega)) (h3.rd (by omega))).mono ?_
      rintro e w2 ⟨v2, rfl, n2, u2⟩
      rw [hc1] at n2
      exact hK _ _ u2 n2
    · intro x w1 K hU hS hO hd hK
      obtain ⟨k0, k1, -⟩ := cells2 ((Up.tr (up_drew _) (hS.upb rfl)).blk (unhide K3).2.1)
      clear hd
      refine Veil.mk ?_; simp only [kgoal, putsFrom, depsOf, pu0, pu1, pu2, pu3, Nat.zero_add, Nat.reduceAdd, Nat.reduceBEq, Bool.or_false, Bool.false_or, Bool.or_true, Bool.true_or, Bool.false_eq_true, ↓reduceIte, Act.put, List.setIfInBounds_toArray, List.set_cons_zero, List.set_cons_succ]
      go_simp
      exact hK _ _ (Up.refl _) rfl
    · intro x w1 K hU hS hO hd hK
      have h5 : (x 5).v = .agg #[.bool bb, .slice aob nb capb] := kval (hd 5 (by decide)).1 rfl
      clear hd
      refine Veil.mk ?_; simp only [kgoal, putsFrom, depsOf, pu0, pu1, pu2, pu3, Nat.zero_add, Nat.reduceAdd, Nat.reduceBEq, Bool.or_false, Bool.false_or, Bool.or_true, Bool.true_or, Bool.false_eq_true, ↓reduceIte, Act.put, List.setIfInBounds_toArray, List.set_cons_zero, List.set_cons_succ]
      simp only [h5]
      go_simp
      refine (c_rd (M := nb) (((unhide Rb).up hU)) (by omega)).mono ?_
      rintro e w2 ⟨v2, rfl, n2, u2⟩
      exact hK _ _ u2 n2
    · intro x w1 K hU hS hO hd hK
      obtain ⟨k0, k1, -⟩ := cells2 ((Up.tr (up_drew _) (hS.upb rfl)).blk (unhide K3).1)
      clear hd
      refine Veil.mk ?_; simp only [kgoal, putsFrom, depsOf, pu0, pu1, pu2, pu3, Nat.zero_add, Nat.reduceAdd, Nat.reduceBEq, Bool.or_false, Bool.false_or, Bool.or_true, Bool.true_or, Bool.false_eq_true, ↓reduceIte, Act.put, List.setIfInBounds_toArray, List.set_cons_zero, List.set_cons_succ]
      go_simp
      exact hK _ _ (Up.refl _) rfl
    · intro x w1 K hU hS hO hd hK
      have h7 : (x 7).v = .agg #[.bool ba, .slice aoa na capa] := kval (hd 7 (by decide)).1 rfl
      clear hd
      refine Veil.mk ?_; simp only [kgoal, putsFrom, depsOf, pu0, pu1, pu2, pu3, Nat.zero_add, Nat.reduceAdd, Nat.reduceBEq, Bool.or_false, Bool.false_or, Bool.or_true, Bool.true_or, Bool.false_eq_true, ↓reduceIte, Act.put, List.setIfInBounds_toArray, List.set_cons_zero, List.set_cons_succ]
      simp only [h7]
      go_simp
      refine (c_rd (M := na) (((unhide Ra).up hU)) (by omega)).mono ?_
      rintro e w2 ⟨v2, rfl, n2, u2⟩
      exact hK _ _ u2 n2
    · intro x w1 K hU hS hO hd hK
      have h6 : NumD (Xb) (nb) w1 (x 6).lo (x 6).hi (x 6).v := kval (hd 6 (by decide)).1 rfl
      have h8 : NumD (Xa) (na) w1 (x 8).lo (x 8).hi (x 8).v := kval (hd 8 (by decide)).1 rfl
      clear hd
      refine Veil.mk ?_; simp only [kgoal, putsFrom, depsOf, pu0, pu1, pu2, pu3, Nat.zero_add, Nat.reduceAdd, Nat.reduceBEq, Bool.or_false, Bool.false_or, Bool.or_true, Bool.true_or, Bool.false_eq_true, ↓reduceIte, Act.put, List.setIfInBounds_toArray, List.set_cons_zero, List.set_cons_succ]
      go_simp
      refine (cmp_rd (M := 1048576) (h6.rd (by omega)) (h8.rd (by omega))).mono ?_
      rintro e w2 ⟨v2, rfl, n2, u2⟩
      rw [hc2] at n2
      exact hK _ _ u2 n2
    · intro x w1 K hU hS hO hd hK
      have h9 : (x 9).v = .int .i64 (-1) := kval (hd 9 (by decide)).1 rfl
      clear hd
      refine Veil.mk ?_; simp only [kgoal, putsFrom, depsOf, pu0, pu1, pu2, pu3, Nat.zero_add, Nat.reduceAdd, Nat.reduceBEq, Bool.or_false, Bool.false_or, Bool.or_true, Bool.true_or, Bool.false_eq_true, ↓reduceIte, Act.put, List.setIfInBounds_toArray, List.set_cons_zero, List.set_cons_succ]
      simp only [h9]
      go_simp
      exact hK _ _ (Up.refl _) rfl
    · intro x w1 K hU hS hO hd hK
      have h4 : (x 4).v = .int .i64 (1) := kval (hd 4 (by decide)).1 rfl
      have h10 : (x 10).v = .int .i64 (1) := kval (hd 10 (by decide)).1 rfl
      clear hd
      refine Veil.mk ?_; simp only [kgoal, putsFrom, depsOf, pu0, pu1, pu2, pu3, Nat.zero_add, Nat.reduceAdd, Nat.reduceBEq, Bool.or_false, Bool.false_or, Bool.or_true, Bool.true_or, Bool.false_eq_true, ↓reduceIte, Act.put, List.setIfInBounds_toArray, List.set_cons_zero, List.set_cons_succ]
      simp only [h4, h10]
      go_simp
      exact hK _ _ (Up.refl _) rfl
    · intro x w1 K hU hS hO hd hK
      have h11 : (x 11).v = .bool false := kval (hd 11 (by decide)).1 rfl
      clear hd
      refine Veil.mk ?_; simp only [kgoal, putsFrom, depsOf, pu0, pu1, pu2, pu3, Nat.zero_add, Nat.reduceAdd, Nat.reduceBEq, Bool.or_false, Bool.false_or, Bool.or_true, Bool.true_or, Bool.false_eq_true, ↓reduceIte, Act.put, List.setIfInBounds_toArray, List.set_cons_zero, List.set_cons_succ]
      simp only [h11]
      go_simp
      exact hK _ _ (Up.refl _) rfl
    · intro x w1 K hU hS hO hd hK
      have h12 : (x 12).v = .bool false := kval (hd 12 (by decide)).1 rfl
      obtain ⟨k0, k1, -⟩ := cells2 ((Up.tr (up_drew _) (hS.upb rfl)).blk (unhide K3).1)
      clear hd
      refine Veil.mk ?_; simp only [kgoal, putsFrom, depsOf, pu0, pu1, pu2, pu3, Nat.zero_add, Nat.reduceAdd, Nat.reduceBEq, Bool.or_false, Bool.false_or, Bool.or_true, Bool.true_or, Bool.false_eq_true, ↓reduceIte, Act.put, List.setIfInBounds_toArray, List.set_cons_zero, List.set_cons_succ]
      simp only [h12]
      rw [if_pos (by rfl)]
      go_simp
      exact hK _ _ (Up.refl _) rfl
    · intro x w1 K hU hS hO hd hK
      have h13 : (x 13).v = .agg #[.bool ba, .slice aoa na capa] := kval (hd 13 (by decide)).1 rfl
      have h12 : (x 12).v = .bool false := kval (hd 12 (by decide)).1 rfl
      clear hd
      refine Veil.mk ?_; simp only [kgoal, putsFrom, depsOf, pu0, pu1, pu2, pu3, Nat.zero_add, Nat.reduceAdd, Nat.reduceBEq, Bool.or_false, Bool.false_or, Bool.or_true, Bool.true_or, Bool.false_eq_true, ↓reduceIte, Act.put, List.setIfInBounds_toArray, List.set_cons_zero, List.set_cons_succ]
      simp only [h13, h12]
      rw [if_pos (by rfl)]
      go_simp
      refine (c_rd (M := na) (((unhide Ra).up hU)) (by omega)).mono ?_
      rintro e w2 ⟨v2, rfl, n2, u2⟩
      exact hK _ _ u2 n2
    · intro x w1 K hU hS hO hd hK
      have h12 : (x 12).v = .bool false := kval (hd 12 (by decide)).1 rfl
      obtain ⟨k0, k1, -⟩ := cells2 ((Up.tr (up_drew _) (hS.upb rfl)).blk (unhide K3).2.2)
      clear hd
      refine Veil.mk ?_; simp only [kgoal, putsFrom, depsOf, pu0, pu1, pu2, pu3, Nat.zero_add, Nat.reduceAdd, Nat.reduceBEq, Bool.or_false, Bool.false_or, Bool.or_true, Bool.true_or, Bool.false_eq_true, ↓reduceIte, Act.put, List.setIfInBounds_toArray, List.set_cons_zero, List.set_cons_succ]
      simp only [h12]
      rw [if_pos (by rfl)]
      go_simp
      exact hK _ _ (Up.refl _) rfl
    · intro x w1 K hU hS hO hd hK
      have h15 : (x 15).v = .agg #[.bool bd, .slice aod nd capd] := kval (hd 15 (by decide)).1 rfl
      have h12 : (x 12).v = .bool false := kval (hd 12 (by decide)).1 rfl
      clear hd
      refine Veil.mk ?_; simp only [kgoal, putsFrom, depsOf, pu0, pu1, pu2, pu3, Nat.zero_add, Nat.reduceAdd, Nat.reduceBEq, Bool.or_false, Bool.false_or, Bool.or_true, Bool.true_or, Bool.false_eq_true, ↓reduceIte, Act.put, List.setIfInBounds_toArray, List.set_cons_zero, List.set_cons_succ]
      simp only [h15, h12]
      rw [if_pos (by rfl)]
      go_simp
      refine (c_rd (M := nd) (((unhide Rd).up hU)) (by omega)).mono ?_
      rintro e w2 ⟨v2, rfl, n2, u2⟩
      exact hK _ _ u2 n2
    · intro x w1 K hU hS hO hd hK
      have h14 : NumD (Xa) (na) w1 (x 14).lo (x 14).hi (x 14).v := kval (hd 14 (by decide)).1 rfl
      have h16 : NumD (Xd) (nd) w1 (x 16).lo (x 16).hi (x 16).v := kval (hd 16 (by decide)).1 rfl
      have h12 : (x 12).v = .bool false := kval (hd 12 (by decide)).1 rfl
      obtain ⟨pa, qa, ra, ta, ea⟩ := (h14.rd (Nat.le_refl _)).agg
      obtain ⟨pb, qb, rb, tb, eb⟩ := (h16.rd (Nat.le_refl _)).agg
      clear hd
      refine Veil.mk ?_; simp only [kgoal, putsFrom, depsOf, pu0, pu1, pu2, pu3, Nat.zero_add, Nat.reduceAdd, Nat.reduceBEq, Bool.or_false, Bool.false_or, Bool.or_true, Bool.true_or, Bool.false_eq_true, ↓reduceIte, Act.put, List.setIfInBounds_toArray, List.set_cons_zero, List.set_cons_succ]
      simp only [ea, eb, h12]
      rw [if_pos (by rfl)]
      go_simp
      exact hK _ _ (up_alloc _ _) ⟨rfl, by show w1.heap.size < (w1.alloc _).heap.size; simp, _, _, _, _, by show [(x 14).v, (x 16).v] = _; rw [ea, eb], heap_alloc_new w1 _⟩
    · intro x w1 K hU hS hO hd hK
      have h17 : Pair2 w1 (x 17) [(x 14).v, (x 16).v] := kval (hd 17 (by decide)).1 rfl
      have h14 : NumD (Xa) (na) w1 (x 14).lo (x 14).hi (x 14).v := kval (hd 14 (by decide)).1 rfl
      have h16 : NumD (Xd) (nd) w1 (x 16).lo (x 16).hi (x 16).v := kval (hd 16 (by decide)).1 rfl
      have h12 : (x 12).v = .bool false := kval (hd 12 (by decide)).1 rfl
      obtain ⟨ep, -, b1, v1, b2, v2, ql, hb⟩ := h17
      have ea := (List.cons.inj ql).1
      have eb := (List.cons.inj (List.cons.inj ql).2).1
      rw [ea] at h14
      rw [eb] at h16
      clear hd
      refine Veil.mk ?_; simp only [kgoal, putsFrom, depsOf, pu0, pu1, pu2, pu3, Nat.zero_add, Nat.reduceAdd, Nat.reduceBEq, Bool.or_false, Bool.false_or, Bool.or_true, Bool.true_or, Bool.false_eq_true, ↓reduceIte, Act.put, List.setIfInBounds_toArray, List.set_cons_zero, List.set_cons_succ]
      simp only [ep, h12]
      rw [if_pos (by rfl)]
      go_simp
      refine (add2_rd (M := 1048576) hb (h14.rd (by omega)) (h16.rd (by omega)) (by omega)).mono ?_
      rintro e w2 ⟨v2, rfl, n2, u2⟩
      exact hK _ _ u2 n2
    · intro x w1 K hU hS hO hd hK
      have h12 : (x 12).v = .bool false := kval (hd 12 (by decide)).1 rfl
      obtain ⟨k0, k1, -⟩ := cells2 ((Up.tr (up_drew _) (hS.upb rfl)).blk (unhide K3).2.1)
      clear hd
      refine Veil.mk ?_; simp only [kgoal, putsFrom, depsOf, pu0, pu1, pu2, pu3, Nat.zero_add, Nat.reduceAdd, Nat.reduceBEq, Bool.or_false, Bool.false_or, Bool.or_true, Bool.true_or, Bool.false_eq_true, ↓reduceIte, Act.put, List.setIfInBounds_toArray, List.set_cons_zero, List.set_cons_succ]
      simp only [h12]
      rw [if_pos (by rfl)]
      go_simp
      exact hK _ _ (Up.refl _) rfl
    · intro x w1 K hU hS hO hd hK
      have h19 : (x 19).v = .agg #[.bool bb, .slice aob nb capb] := kval (hd 19 (by decide)).1 rfl
      have h12 : (x 12).v = .bool false := kval (hd 12 (by decide)).1 rfl
      clear hd
      refine Veil.mk ?_; simp only [kgoal, putsFrom, depsOf, pu0, pu1, pu2, pu3, Nat.zero_add, Nat.reduceAdd, Nat.reduceBEq, Bool.or_false, Bool.false_or, Bool.or_true, Bool.true_or, Bool.false_eq_true, ↓reduceIte, Act.put, List.setIfInBounds_toArray, List.set_cons_zero, List.set_cons_succ]
      simp only [h19, h12]
      rw [if_pos (by rfl)]
      go_simp
      refine (c_rd (M := nb) (((unhide Rb).up hU)) (by omega)).mono ?_
      rintro e w2 ⟨v2, rfl, n2, u2⟩
      exact hK _ _ u2 n2
    · intro x w1 K hU hS hO hd hK
      have h12 : (x 12).v = .bool false := kval (hd 12 (by decide)).1 rfl
      obtain ⟨k0, k1, -⟩ := cells2 ((Up.tr (up_drew _) (hS.upb rfl)).blk (unhide K3).2.2)
      clear hd
      refine Veil.mk ?_; simp only [kgoal, putsFrom, depsOf, pu0, pu1, pu2, pu3, Nat.zero_add, Nat.reduceAdd, Nat.reduceBEq, Bool.or_false, Bool.false_or, Bool.or_true, Bool.true_or, Bool.false_eq_true, ↓reduceIte, Act.put, List.setIfInBounds_toArray, List.set_cons_zero, List.set_cons_succ]
      simp only [h12]
      rw [if_pos (by rfl)]
      go_simp
      exact hK _ _ (Up.refl _) rfl
    · intro x w1 K hU hS hO hd hK
      have h21 : (x 21).v = .agg #[.bool bd, .slice aod nd capd] := kval (hd 21 (by decide)).1 rfl
      have h12 : (x 12).v = .bool false := kval (hd 12 (by decide)).1 rfl
      clear hd
      refine Veil.mk ?_; simp only [kgoal, putsFrom, depsOf, pu0, pu1, pu2, pu3, Nat.zero_add, Nat.reduceAdd, Nat.reduceBEq, Bool.or_false, Bool.false_or, Bool.or_true, Bool.true_or, Bool.false_eq_true, ↓reduceIte, Act.put, List.setIfInBounds_toArray, List.set_cons_zero, List.set_cons_succ]
      simp only [h21, h12]
      rw [if_pos (by rfl)]
      go_simp
      refine (c_rd (M := nd) (((unhide Rd).up hU)) (by omega)).mono ?_
      rintro e w2 ⟨v2, rfl, n2, u2⟩
      exact hK _ _ u2 n2
    · intro x w1 K hU hS hO hd hK
      have h20 : NumD (Xb) (nb) w1 (x 20).lo (x 20).hi (x 20).v := kval (hd 20 (by decide)).1 rfl
      have h22 : NumD (Xd) (nd) w1 (x 22).lo (x 22).hi (x 22).v := kval (hd 22 (by decide)).1 rfl
      have h12 : (x 12).v = .bool false := kval (hd 12 (by decide)).1 rfl
      obtain ⟨pa, qa, ra, ta, ea⟩ := (h20.rd (Nat.le_refl _)).agg
      obtain ⟨pb, qb, rb, tb, eb⟩ := (h22.rd (Nat.le_refl _)).agg
      clear hd
      refine Veil.mk ?_; simp only [kgoal, putsFrom, depsOf, pu0, pu1, pu2, pu3, Nat.zero_add, Nat.reduceAdd, Nat.reduceBEq, Bool.or_false, Bool.false_or, Bool.or_true, Bool.true_or, Bool.false_eq_true, ↓reduceIte, Act.put, List.setIfInBounds_toArray, List.set_cons_zero, List.set_cons_succ]
      simp only [ea, eb, h12]
      rw [if_pos (by rfl)]
      go_simp
      exact hK _ _ (up_alloc _ _) ⟨rfl, by show w1.heap.size < (w1.alloc _).heap.size; simp, _, _, _, _, by show [(x 20).v, (x 22).v] = _; rw [ea, eb], heap_alloc_new w1 _⟩
    · intro x w1 K hU hS hO hd hK
      have h23 : Pair2 w1 (x 23) [(x 20).v, (x 22).v] := kval (hd 23 (by decide)).1 rfl
      have h20 : NumD (Xb) (nb) w1 (x 20).lo (x 20).hi (x 20).v := kval (hd 20 (by decide)).1 rfl
      have h22 : NumD (Xd) (nd) w1 (x 22).lo (x 22).hi (x 22).v := kval (hd 22 (by decide)).1 rfl
      have h12 : (x 12).v = .bool false := kval (hd 12 (by decide)).1 rfl
      obtain ⟨ep, -, b1, v1, b2, v2, ql, hb⟩ := h23
      have ea := (List.cons.inj ql).1
      have eb := (List.cons.inj (List.cons.inj ql).2).1
      rw [ea] at h20
      rw [eb] at h22
      clear hd
      refine Veil.mk ?_; simp only [kgoal, putsFrom, depsOf, pu0, pu1, pu2, pu3, Nat.zero_add, Nat.reduceAdd, Nat.reduceBEq, Bool.or_false, Bool.false_or, Bool.or_true, Bool.true_or, Bool.false_eq_true, ↓reduceIte, Act.put, List.setIfInBounds_toArray, List.set_cons_zero, List.set_cons_succ]
      simp only [ep, h12]
      rw [if_pos (by rfl)]
      go_simp
      refine (add2_rd (M := 1048576) hb (h20.rd (by omega)) (h22.rd (by omega)) (by omega)).mono ?_
      rintro e w2 ⟨v2, rfl, n2, u2⟩
      exact hK _ _ u2 n2
    · intro x w1 K hU hS hO hd hK
      have h18 : NumIn (Xa + Xd) (1048576 + 1) w1 (x 18).lo (x 18).hi (x 18).v := kval (hd 18 (by decide)).1 rfl
      have h24 : NumIn (Xb + Xd) (1048576 + 1) w1 (x 24).lo (x 24).hi (x 24).v := kval (hd 24 (by decide)).1 rfl
      have h12 : (x 12).v = .bool false := kval (hd 12 (by decide)).1 rfl
      clear hd
      refine Veil.mk ?_; simp only [kgoal, putsFrom, depsOf, pu0, pu1, pu2, pu3, Nat.zero_add, Nat.reduceAdd, Nat.reduceBEq, Bool.or_false, Bool.false_or, Bool.or_true, Bool.true_or, Bool.false_eq_true, ↓reduceIte, Act.put, List.setIfInBounds_toArray, List.set_cons_zero, List.set_cons_succ]
      simp only [h12]
      rw [if_pos (by rfl)]
      go_simp
      refine (cmp_rd (M := 1048576 + 1) (h18.rd (by omega)) (h24.rd (by omega))).mono ?_
      rintro e w2 ⟨v2, rfl, n2, u2⟩
      rw [hc3] at n2
      exact hK _ _ u2 n2
    · intro x w1 K hU hS hO hd hK
      have h12 : (x 12).v = .bool false := kval (hd 12 (by decide)).1 rfl
      obtain ⟨k0, k1, -⟩ := cells2 ((Up.tr (up_drew _) (hS.upb rfl)).blk (unhide K3).1)
      clear hd
      refine Veil.mk ?_; simp only [kgoal, putsFrom, depsOf, pu0, pu1, pu2, pu3, Nat.zero_add, Nat.reduceAdd, Nat.reduceBEq, Bool.or_false, Bool.false_or, Bool.or_true, Bool.true_or, Bool.false_eq_true, ↓reduceIte, Act.put, List.setIfInBounds_toArray, List.set_cons_zero, List.set_cons_succ]
      simp only [h12]
      rw [if_pos (by rfl)]
      go_simp
      exact hK _ _ (Up.refl _) rfl
    · intro x w1 K hU hS hO hd hK
      have h26 : (x 26).v = .agg #[.bool ba, .slice aoa na capa] := kval (hd 26 (by decide)).1 rfl
      have h12 : (x 12).v = .bool false := kval (hd 12 (by decide)).1 rfl
      clear hd
      refine Veil.mk ?_; simp only [kgoal, putsFrom, depsOf, pu0, pu1, pu2, pu3, Nat.zero_add, Nat.reduceAdd, Nat.reduceBEq, Bool.or_false, Bool.false_or, Bool.or_true, Bool.true_or, Bool.false_eq_true, ↓reduceIte, Act.put, List.setIfInBounds_toArray, List.set_cons_zero, List.set_cons_succ]
      simp only [h26, h12]
      rw [if_pos (by rfl)]
      go_simp
      refine (c_rd (M := na) (((unhide Ra).up hU)) (by omega)).mono ?_
      rintro e w2 ⟨v2, rfl, n2, u2⟩
      exact hK _ _ u2 n2
    · intro x w1 K hU hS hO hd hK
      have h12 : (x 12).v = .bool false := kval (hd 12 (by decide)).1 rfl
      obtain ⟨k0, k1, -⟩ := cells2 ((Up.tr (up_drew _) (hS.upb rfl)).blk (unhide K3).2.1)
      clear hd
      refine Veil.mk ?_; simp only [kgoal, putsFrom, depsOf, pu0, pu1, pu2, pu3, Nat.zero_add, Nat.reduceAdd, Nat.reduceBEq, Bool.or_false, Bool.false_or, Bool.or_true, Bool.true_or, Bool.false_eq_true, ↓reduceIte, Act.put, List.setIfInBounds_toArray, List.set_cons_zero, List.set_cons_succ]
      simp only [h12]
      rw [if_pos (by rfl)]
      go_simp
      exact hK _ _ (Up.refl _) rfl
    · intro x w1 K hU hS hO hd hK
      have h28 : (x 28).v = .agg #[.bool bb, .slice aob nb capb] := kval (hd 28 (by decide)).1 rfl
      have h12 : (x 12).v = .bool false := kval (hd 12 (by decide)).1 rfl
      clear hd
      refine Veil.mk ?_; simp only [kgoal, putsFrom, depsOf, pu0, pu1, pu2, pu3, Nat.zero_add, Nat.reduceAdd, Nat.reduceBEq, Bool.or_false, Bool.false_or, Bool.or_true, Bool.true_or, Bool.false_eq_true, ↓reduceIte, Act.put, List.setIfInBounds_toArray, List.set_cons_zero, List.set_cons_succ]
      simp only [h28, h12]
      rw [if_pos (by rfl)]
      go_simp
      refine (c_rd (M := nb) (((unhide Rb).up hU)) (by omega)).mono ?_
      rintro e w2 ⟨v2, rfl, n2, u2⟩
      exact hK _ _ u2 n2
    · intro x w1 K hU hS hO hd hK
      have h27 : NumD (Xa) (na) w1 (x 27).lo (x 27).hi (x 27).v := kval (hd 27 (by decide)).1 rfl
      have h29 : NumD (Xb) (nb) w1 (x 29).lo (x 29).hi (x 29).v := kval (hd 29 (by decide)).1 rfl
      have h12 : (x 12).v = .bool false := kval (hd 12 (by decide)).1 rfl
      clear hd
      refine Veil.mk ?_; simp only [kgoal, putsFrom, depsOf, pu0, pu1, pu2, pu3, Nat.zero_add, Nat.reduceAdd, Nat.reduceBEq, Bool.or_false, Bool.false_or, Bool.or_true, Bool.true_or, Bool.false_eq_true, ↓reduceIte, Act.put, List.setIfInBounds_toArray, List.set_cons_zero, List.set_cons_succ]
      simp only [h12]
      rw [if_pos (by rfl)]
      go_simp
      refine (cmp_rd (M := 1048576) (h27.rd (by omega)) (h29.rd (by omega))).mono ?_
      rintro e w2 ⟨v2, rfl, n2, u2⟩
      rw [hc1] at n2
      exact hK _ _ u2 n2
    · intro x w1 K hU hS hO hd hK
      have h25 : (x 25).v = .int .i64 (1) := kval (hd 25 (by decide)).1 rfl
      have h30 : (x 30).v = .int .i64 (1) := kval (hd 30 (by decide)).1 rfl
      have h12 : (x 12).v = .bool false := kval (hd 12 (by decide)).1 rfl
      clear hd
      refine Veil.mk ?_; simp only [kgoal, putsFrom, depsOf, pu0, pu1, pu2, pu3, Nat.zero_add, Nat.reduceAdd, Nat.reduceBEq, Bool.or_false, Bool.false_or, Bool.or_true, Bool.true_or, Bool.false_eq_true, ↓reduceIte, Act.put, List.setIfInBounds_toArray, List.set_cons_zero, List.set_cons_succ]
      simp only [h25, h30, h12]
      rw [if_pos (by rfl)]
      go_simp
      exact hK _ _ (Up.refl _) rfl
    · intro x w1 K hU hS hO hd hK
      have h12 : (x 12).v = .bool false := kval (hd 12 (by decide)).1 rfl
      have h31 : (x 31).v = .bool false := kval (hd 31 (by decide)).1 rfl
      clear hd
      refine Veil.mk ?_; simp only [kgoal, putsFrom, depsOf, pu0, pu1, pu2, pu3, Nat.zero_add, Nat.reduceAdd, Nat.reduceBEq, Bool.or_false, Bool.false_or, Bool.or_true, Bool.true_or, Bool.false_eq_true, ↓reduceIte, Act.put, List.setIfInBounds_toArray, List.set_cons_zero, List.set_cons_succ]
      simp only [h12, h31]
      go_simp
      exact hK _ _ (Up.refl _) rfl
    intro x w1 hU hS hR hlo hdis
    have hfin : (x 32).v = .bool false := kval (hR 32 (by decide)) rfl
    have hG := Up.tr (up_drew _) (hS.upb rfl)
    refine Veil.mk ?_; simp only [kgoal, putsFrom, depsOf, pu0, pu1, pu2, pu3, Nat.zero_add, Nat.reduceAdd, Nat.reduceBEq, Bool.or_false, Bool.false_or, Bool.or_true, Bool.true_or, Bool.false_eq_true, ↓reduceIte, Act.put, List.setIfInBounds_toArray, List.set_cons_zero, List.set_cons_succ]
    rw [hfin]
    generalize (x 0).v = z0u
    generalize (x 1).v = z1u
    generalize (x 2).v = z2u
    generalize (x 3).v = z3u
    generalize (x 4).v = z4u
    generalize (x 5).v = z5u
    generalize (x 6).v = z6u
    generalize (x 7).v = z7u
    generalize (x 8).v = z8u
    generalize (x 9).v = z9u
    generalize (x 10).v = z10u
    generalize (x 11).v = z11u
    generalize (x 12).v = z12u
    generalize (x 13).v = z13u
    generalize (x 14).v = z14u
    generalize (x 15).v = z15u
    generalize (x 16).v = z16u
    generalize (x 17).v = z17u
    generalize (x 18).v = z18u
    generalize (x 19).v = z19u
    generalize (x 20).v = z20u
    generalize (x 21).v = z21u
    generalize (x 22).v = z22u
    generalize (x 23).v = z23u
    generalize (x 24).v = z24u
    generalize (x 25).v = z25u
    generalize (x 26).v = z26u
    generalize (x 27).v = z27u
    generalize (x 28).v = z28u
    generalize (x 29).v = z29u
    generalize (x 30).v = z30u
    generalize (x 31).v = z31u
    clear hR hlo hdis hS hfin
    have B1 := hG
    have U1 := hU
    clear hG hU hc1 hc2 hc3
    go_wp2_with fail
    refine wp_region_knd (by kernel_rfl) w U1 [[], [0], [], [2], [3], [1, 4], [5, 1, 4], [], [7, 6]] [.val [] (fun _ g _ => g.v = .agg #[.bool ba, .slice aoa na capa]), .val [] (fun w g _ => NumD (Xa) (na) w g.lo g.hi g.v), .val [] (fun _ g _ => g.v = .agg #[.bool ba, .slice aoa na capa]), .val [] (fun w g _ => NumD (Xa) (na) w g.lo g.hi g.v), .val [] (fun w g _ => NumIn (-(Xa)) (na) w g.lo g.hi g.v), .val [1, 4] (fun w g vs => Pair2 w g vs), .val [] (fun w g _ => NumIn (Xa + (-(Xa))) (1048576 + 1) w g.lo g.hi g.v), .box 26 2, .sto 7 6 26 2] (by kernel_rfl) (by kernel_rfl) rfl ⟨trivial, trivial, trivial, trivial, trivial, trivial, trivial, trivial, trivial, trivial⟩ ⟨fun _ _ _ _ _ h => h, fun _ _ _ _ hb h => h.keep hb, fun _ _ _ _ _ h => h, fun _ _ _ _ hb h => h.keep hb, fun _ _ _ _ hb h => h.keep hb, fun _ _ _ _ hb h => h.keep hb, fun _ _ _ _ hb h => h.keep hb, trivial, trivial, trivial⟩ ⟨?_, ?_, ?_, ?_, ?_, ?_, ?_, ?_, ?_, trivial⟩ ?_
    · intro x w1 K hU hS hO hd hK
      obtain ⟨k0, k1, -⟩ := cells2 ((B1.tr (Up.tr (up_drew _) (hS.upb rfl))).blk (unhide K3).1)
      clear hd
      refine Veil.mk ?_; simp only [kgoal, putsFrom, depsOf, pu0, pu1, pu2, pu3, Nat.zero_add, Nat.reduceAdd, Nat.reduceBEq, Bool.or_false, Bool.false_or, Bool.or_true, Bool.true_or, Bool.false_eq_true, ↓reduceIte, Act.put, List.setIfInBounds_toArray, List.set_cons_zero, List.set_cons_succ]
      go_simp
      exact hK _ _ (Up.refl _) rfl
    · intro x w1 K hU hS hO hd hK
      have h0 : (x 0).v = .agg #[.bool ba, .slice aoa na capa] := kval (hd 0 (by decide)).1 rfl
      clear hd
      refine Veil.mk ?_; simp only [kgoal, putsFrom, depsOf, pu0, pu1, pu2, pu3, Nat.zero_add, Nat.reduceAdd, Nat.reduceBEq, Bool.or_false, Bool.false_or, Bool.or_true, Bool.true_or, Bool.false_eq_true, ↓reduceIte, Act.put, List.setIfInBounds_toArray, List.set_cons_zero, List.set_cons_succ]
      simp only [h0]
      go_simp
      refine (c_rd (M := na) (((unhide Ra).up hU)) (by omega)).mono ?_
      rintro e w2 ⟨v2, rfl, n2, u2⟩
      exact hK _ _ u2 n2
    · intro x w1 K hU hS hO hd hK
      obtain ⟨k0, k1, -⟩ := cells2 ((B1.tr (Up.tr (up_drew _) (hS.upb rfl))).blk (unhide K3).1)
      clear hd
      refine Veil.mk ?_; simp only [kgoal, putsFrom, depsOf, pu0, pu1, pu2, pu3, Nat.zero_add, Nat.reduceAdd, Nat.reduceBEq, Bool.or_false, Bool.false_or, Bool.or_true, Bool.true_or, Bool.false_eq_true, ↓reduceIte, Act.put, List.setIfInBounds_toArray, List.set_cons_zero, List.set_cons_succ]
      go_simp
      exact hK _ _ (Up.refl _) rfl
    · intro x w1 K hU hS hO hd hK
      have h2 : (x 2).v = .agg #[.bool ba, .slice aoa na capa] := kval (hd 2 (by decide)).1 rfl
      clear hd
      refine Veil.mk ?_; simp only [kgoal, putsFrom, depsOf, pu0, pu1, pu2, pu3, Nat.zero_add, Nat.reduceAdd, Nat.reduceBEq, Bool.or_false, Bool.false_or, Bool.or_true, Bool.true_or, Bool.false_eq_true, ↓reduceIte, Act.put, List.setIfInBounds_toArray, List.set_cons_zero, List.set_cons_succ]
      simp only [h2]
      go_simp
      refine (c_rd (M := na) (((unhide Ra).up hU)) (by omega)).mono ?_
      rintro e w2 ⟨v2, rfl, n2, u2⟩
      exact hK _ _ u2 n2
    · intro x w1 K hU hS hO hd hK
      have h3 : NumD (Xa) (na) w1 (x 3).lo (x 3).hi (x 3).v := kval (hd 3 (by decide)).1 rfl
      clear hd
      refine Veil.mk ?_; simp only [kgoal, putsFrom, depsOf, pu0, pu1, pu2, pu3, Nat.zero_add, Nat.reduceAdd, Nat.reduceBEq, Bool.or_false, Bool.false_or, Bool.or_true, Bool.true_or, Bool.false_eq_true, ↓reduceIte, Act.put, List.setIfInBounds_toArray, List.set_cons_zero, List.set_cons_succ]
      go_simp
      refine (neg_rd (M := na) (h3.rd (by omega)) (by omega)).mono ?_
      rintro e w2 ⟨v2, rfl, n2, u2⟩
      exact hK _ _ u2 n2
    · intro x w1 K hU hS hO hd hK
      have h1 : NumD (Xa) (na) w1 (x 1).lo (x 1).hi (x 1).v := kval (hd 1 (by decide)).1 rfl
      have h4 : NumIn (-(Xa)) (na) w1 (x 4).lo (x 4).hi (x 4).v := kval (hd 4 (by decide)).1 rfl
      obtain ⟨pa, qa, ra, ta, ea⟩ := (h1.rd (Nat.le_refl _)).agg
      obtain ⟨pb, qb, rb, tb, eb⟩ := (h4.rd (Nat.le_refl _)).agg
      clear hd
      refine Veil.mk ?_; simp only [kgoal, putsFrom, depsOf, pu0, pu1, pu2, pu3, Nat.zero_add, Nat.reduceAdd, Nat.reduceBEq, Bool.or_false, Bool.false_or, Bool.or_true, Bool.true_or, Bool.false_eq_true, ↓reduceIte, Act.put, List.setIfInBounds_toArray, List.set_cons_zero, List.set_cons_succ]
      simp only [ea, eb]
      go_simp
      exact hK _ _ (up_alloc _ _) ⟨rfl, by show w1.heap.size < (w1.alloc _).heap.size; simp, _, _, _, _, by show [(x 1).v, (x 4).v] = _; rw [ea, eb], heap_alloc_new w1 _⟩
    · intro x w1 K hU hS hO hd hK
      have h5 : Pair2 w1 (x 5) [(x 1).v, (x 4).v] := kval (hd 5 (by decide)).1 rfl
      have h1 : NumD (Xa) (na) w1 (x 1).lo (x 1).hi (x 1).v := kval (hd 1 (by decide)).1 rfl
      have h4 : NumIn (-(Xa)) (na) w1 (x 4).lo (x 4).hi (x 4).v := kval (hd 4 (by decide)).1 rfl
      obtain ⟨ep, -, b1, v1, b2, v2, ql, hb⟩ := h5
      have ea := (List.cons.inj ql).1
      have eb := (List.cons.inj (List.cons.inj ql).2).1
      rw [ea] at h1
      rw [eb] at h4
      clear hd
      refine Veil.mk ?_; simp only [kgoal, putsFrom, depsOf, pu0, pu1, pu2, pu3, Nat.zero_add, Nat.reduceAdd, Nat.reduceBEq, Bool.or_false, Bool.false_or, Bool.or_true, Bool.true_or, Bool.false_eq_true, ↓reduceIte, Act.put, List.setIfInBounds_toArray, List.set_cons_zero, List.set_cons_succ]
      simp only [ep]
      go_simp
      refine (add2_rd (M := 1048576) hb (h1.rd (by omega)) (h4.rd (by omega)) (by omega)).mono ?_
      rintro e w2 ⟨v2, rfl, n2, u2⟩
      exact hK _ _ u2 n2
    · intro x w1 K hU hS hO hd hK
      refine Veil.mk ?_; simp only [kgoal, putsFrom, depsOf, pu0, pu1, pu2, pu3, Nat.zero_add, Nat.reduceAdd, Nat.reduceBEq, Bool.or_false, Bool.false_or, Bool.or_true, Bool.true_or, Bool.false_eq_true, ↓reduceIte, Act.put, List.setIfInBounds_toArray, List.set_cons_zero, List.set_cons_succ]
      go_simp
      exact hK _ _ (up_alloc _ _) (box_new rfl hS)
    · intro x w1 K hU hS hO hd hK
      obtain ⟨c0, c1, eb, hb⟩ := kbox2 (hd 7 (by decide)).1 rfl
      have h6 : NumIn (Xa + (-(Xa))) (1048576 + 1) w1 (x 6).lo (x 6).hi (x 6).v := kval (hd 6 (by decide)).1 rfl
      obtain ⟨pa, qa, ra, ta, es⟩ := (h6.rd (Nat.le_refl _)).agg
      clear h6
      obtain ⟨d0, d1, f0, f1, -⟩ := cells2 hb
      clear hd
      refine Veil.mk ?_; simp only [kgoal, putsFrom, depsOf, pu0, pu1, pu2, pu3, Nat.zero_add, Nat.reduceAdd, Nat.reduceBEq, Bool.or_false, Bool.false_or, Bool.or_true, Bool.true_or, Bool.false_eq_true, ↓reduceIte, Act.put, List.setIfInBounds_toArray, List.set_cons_zero, List.set_cons_succ]
      go_simp
      exact hK _ _ (sto_two hb _ _).1 ⟨_, rfl, es, (sto_two hb _ _).2⟩
    intro x w1 hU hS hR hlo hdis
    have hx : NumIn (Xa + (-(Xa))) (1048576 + 1) w1 (x 6).lo (x 6).hi (x 6).v := kval (hR 6 (by decide)) rfl
    obtain ⟨bz, aoz, nz, capz, ex⟩ := (hx.rd (Nat.le_refl _)).agg
    rw [ex] at hx
    obtain ⟨cs, -, q0, Tz⟩ := ksto (hR 8 (by decide)) rfl
    rw [ex] at q0
    cases q0
    obtain ⟨eb, -⟩ := kbox (hR 7 (by decide)) rfl
    obtain ⟨rfl, rfl⟩ := RdC.zero hx.rc (by omega)
    have hG := Up.tr (up_drew _) (hS.upb rfl)
    refine Veil.mk ?_; simp only [kgoal, putsFrom, depsOf, pu0, pu1, pu2, pu3, Nat.zero_add, Nat.reduceAdd, Nat.reduceBEq, Bool.or_false, Bool.false_or, Bool.or_true, Bool.true_or, Bool.false_eq_true, ↓reduceIte, Act.put, List.setIfInBounds_toArray, List.set_cons_zero, List.set_cons_succ]
    rw [eb]
    generalize (x 0).v = y0z at *
    generalize (x 1).v = y1z at *
    generalize (x 2).v = y2z at *
    generalize (x 3).v = y3z at *
    generalize (x 4).v = y4z at *
    generalize (x 5).v = y5z at *
    generalize (x 6).v = y6z at *
    generalize (x 7).lo = gz at *
    have U2 := hU
    have B2 := B1.tr hG
    clear hR hlo hdis hS hx ex eb hG hU B1 U1
    obtain ⟨c0, c1, -⟩ := cells2 (B2.blk (unhide K3).1)
    go_wp2_with fail
    refine (c_rd (M := na) ((unhide Ra).up U2) (by omega)).mono ?_
    rintro e w5 ⟨v5, rfl, n5, u5⟩
    obtain ⟨b5, ao5, m5, cap5, es⟩ := (n5.rd (Nat.le_refl _)).agg
    subst es
    have N5 := hide (n5.rd (Nat.le_refl _))
    clear n5
    go_wp2_with fail
    refine (text_rd (unhide N5) (by omega) ((unhide HT).up (U2.tr u5))).mono ?_
    rintro e w6 ⟨s6, rfl, u6, l6, t6⟩
    have H6 := hide t6
    clear t6
    go_wp2_with fail
    refine (parse_rd s6 Xa 18874400 w6 (unhide H6) (by omega) (by omega)).mono ?_
    rintro e w7 ⟨v7, rfl, n7, u7⟩
    obtain ⟨bp, aop, np, capp, es⟩ := (n7.rd (Nat.le_refl _)).agg
    subst es
    have D7 := ((u5.tr u6).tr u7).tr (up_alloc w7 (.cells #[.bool bp, .slice aop np capp] 26))
    have Tp : (w7.alloc (.cells #[.bool bp, .slice aop np capp] 26)).heap[w7.heap.size]? = some (.cells #[.bool bp, .slice aop np capp] 26 (0, 0)) := heap_alloc_new w7 _
    have Cp := hide (n7.rc.up (up_alloc w7 (.cells #[.bool bp, .slice aop np capp] 26)))
    replace Tz := D7.blk Tz
    have U3 := U2.tr D7
    have B3 := B2.tr D7
    clear n7 u5 u6 u7 D7 U2 B2 c0 c1 N5 H6 l6
    go_wp2_with fail
    refine wp_region_knd (by kernel_rfl) w U3 [[], [0], [1], [2], [3], [4], [5, 4], [6, 4], [4, 7], [8], [9], [9, 10], [11], [12], [12], [14, 12], [13, 15, 12], [16, 12], [12, 17], [18], [19], [19], [21, 19], [22, 19], [23, 22, 19], [20, 24, 19], [19, 25], [26], [27], [27, 28], [29]] (Knd.val [] (fun _ g _ => g.v = .pointer (some ⟨gz, 1, none⟩)) :: Knd.val [] (fun _ g _ => g.v = .slice aoz 0 capz) :: Knd.val [] (fun _ g _ => g.v = .int .i64 0) :: Knd.val [] (fun _ g _ => g.v = .bool true) :: Knd.val [] (fun _ g _ => g.v = .bool true) :: Knd.val [] (fun _ g _ => g.v = .pointer (some ⟨gz, 0, none⟩)) :: Knd.val [] (fun _ g _ => g.v = .bool false) :: Knd.val [] (fun _ g _ => g.v = .bool true) :: Knd.val [] (fun _ g _ => g.v = .bool true) :: Knd.val [] (fun _ g _ => g.v = .bool true) :: Knd.val [] (fun _ g _ => g.v = .bool true) :: Knd.val [] (fun _ g _ => g.v = .bool true) :: Knd.val [] (fun _ g _ => g.v = .bool true) :: Knd.val [] (fun _ g _ => g.v = .agg #[.bool bp, .slice aop np capp]) :: Knd.val [] (fun _ g _ => g.v = .agg #[.bool ba, .slice aoa na capa]) :: Knd.val [] (fun w g _ => NumD (Xa) (na) w g.lo g.hi g.v) :: Knd.val [] (fun _ g _ => g.v = .int .i64 (0)) :: Knd.val [] (fun _ g _ => g.v = .bool true) :: Knd.val [] (fun _ g _ => g.v = .bool true) :: Knd.val [] (fun _ g _ => g.v = .bool true) :: Knd.val [] (fun _ g _ => g.v = .agg #[.bool bp, .slice aop np capp]) :: Knd.val [] (fun _ g _ => g.v = .agg #[.bool ba, .slice aoa na capa]) :: Knd.val [] (fun w g _ => NumD (Xa) (na) w g.lo g.hi g.v) :: Knd.val [22] (fun w g vs => Pair1 w g vs) :: Knd.val [] (fun w g _ => NumIn (Xa) (na + 1) w g.lo g.hi g.v) :: Knd.val [] (fun _ g _ => g.v = .bool true) :: Knd.val [] (fun _ g _ => g.v = .bool true) :: Knd.val [] (fun _ g _ => g.v = .bool true) :: Knd.val [] (fun _ g _ => g.v = .bool true) :: Knd.val [] (fun _ g _ => g.v = .bool true) :: Knd.val [] (fun _ g _ => g.v = .bool true) :: []) (by kernel_rfl) (by kernel_rfl) rfl ⟨trivial, trivial, trivial, trivial, trivial, trivial, trivial, trivial, trivial, trivial, trivial, trivial, trivial, trivial, trivial, trivial, trivial, trivial, trivial, trivial, trivial, trivial, trivial, trivial, trivial, trivial, trivial, trivial, trivial, trivial, trivial, trivial⟩ ⟨fun _ _ _ _ _ h => h, fun _ _ _ _ _ h => h, fun _ _ _ _ _ h => h, fun _ _ _ _ _ h => h, fun _ _ _ _ _ h => h, fun _ _ _ _ _ h => h, fun _ _ _ _ _ h => h, fun _ _ _ _ _ h => h, fun _ _ _ _ _ h => h, fun _ _ _ _ _ h => h, fun _ _ _ _ _ h => h, fun _ _ _ _ _ h => h, fun _ _ _ _ _ h => h, fun _ _ _ _ _ h => h, fun _ _ _ _ _ h => h, fun _ _ _ _ hb h => h.keep hb, fun _ _ _ _ _ h => h, fun _ _ _ _ _ h => h, fun _ _ _ _ _ h => h, fun _ _ _ _ _ h => h, fun _ _ _ _ _ h => h, fun _ _ _ _ _ h => h, fun _ _ _ _ hb h => h.keep hb, fun _ _ _ _ hb h => h.keep hb, fun _ _ _ _ hb h => h.keep hb, fun _ _ _ _ _ h => h, fun _ _ _ _ _ h => h, fun _ _ _ _ _ h => h, fun _ _ _ _ _ h => h, fun _ _ _ _ _ h => h, fun _ _ _ _ _ h => h, trivial⟩ ⟨?_, ?_, ?_, ?_, ?_, ?_, ?_, ?_, ?_, ?_, ?_, ?_, ?_, ?_, ?_, ?_, ?_, ?_, ?_, ?_, ?_, ?_, ?_, ?_, ?_, ?_, ?_, ?_, ?_, ?_, ?_, trivial⟩ ?_
    · intro x w1 K hU hS hO hd hK
      clear hd
      refine Veil.mk ?_; simp only [kgoal, putsFrom, depsOf, pu0, pu1, pu2, pu3, Nat.zero_add, Nat.reduceAdd, Nat.reduceBEq, Bool.or_false, Bool.false_or, Bool.or_true, Bool.true_or, Bool.false_eq_true, ↓reduceIte, Act.put, List.setIfInBounds_toArray, List.set_cons_zero, List.set_cons_succ]
      go_simp
      exact hK _ _ (Up.refl _) rfl
    · intro x w1 K hU hS hO hd hK
      have h0 : (x 0).v = .pointer (some ⟨gz, 1, none⟩) := kval (hd 0 (by decide)).1 rfl
      obtain ⟨k0, k1, -⟩ := cells2 ((Up.tr (up_drew _) (hS.upb rfl)).blk Tz)
      clear hd
      refine Veil.mk ?_; simp only [kgoal, putsFrom, depsOf, pu0, pu1, pu2, pu3, Nat.zero_add, Nat.reduceAdd, Nat.reduceBEq, Bool.or_false, Bool.false_or, Bool.or_true, Bool.true_or, Bool.false_eq_true, ↓reduceIte, Act.put, List.setIfInBounds_toArray, List.set_cons_zero, List.set_cons_succ]
      simp only [h0]
      go_simp
      exact hK _ _ (Up.refl _) rfl
    · intro x w1 K hU hS hO hd hK
      have h1 : (x 1).v = .slice aoz 0 capz := kval (hd 1 (by decide)).1 rfl
      clear hd
      refine Veil.mk ?_; simp only [kgoal, putsFrom, depsOf, pu0, pu1, pu2, pu3, Nat.zero_add, Nat.reduceAdd, Nat.reduceBEq, Bool.or_false, Bool.false_or, Bool.or_true, Bool.true_or, Bool.false_eq_true, ↓reduceIte, Act.put, List.setIfInBounds_toArray, List.set_cons_zero, List.set_cons_succ]
      simp only [h1]
      go_simp
      exact hK _ _ (Up.refl _) rfl
    · intro x w1 K hU hS hO hd hK
      have h2 : (x 2).v = .int .i64 0 := kval (hd 2 (by decide)).1 rfl
      clear hd
      refine Veil.mk ?_; simp only [kgoal, putsFrom, depsOf, pu0, pu1, pu2, pu3, Nat.zero_add, Nat.reduceAdd, Nat.reduceBEq, Bool.or_false, Bool.false_or, Bool.or_true, Bool.true_or, Bool.false_eq_true, ↓reduceIte, Act.put, List.setIfInBounds_toArray, List.set_cons_zero, List.set_cons_succ]
      simp only [h2]
      go_simp
      exact hK _ _ (Up.refl _) rfl
    · intro x w1 K hU hS hO hd hK
      have h3 : (x 3).v = .bool true := kval (hd 3 (by decide)).1 rfl
      clear hd
      refine Veil.mk ?_; simp only [kgoal, putsFrom, depsOf, pu0, pu1, pu2, pu3, Nat.zero_add, Nat.reduceAdd, Nat.reduceBEq, Bool.or_false, Bool.false_or, Bool.or_true, Bool.true_or, Bool.false_eq_true, ↓reduceIte, Act.put, List.setIfInBounds_toArray, List.set_cons_zero, List.set_cons_succ]
      simp only [h3]
      go_simp
      exact hK _ _ (Up.refl _) rfl
    · intro x w1 K hU hS hO hd hK
      have h4 : (x 4).v = .bool true := kval (hd 4 (by decide)).1 rfl
      clear hd
      refine Veil.mk ?_; simp only [kgoal, putsFrom, depsOf, pu0, pu1, pu2, pu3, Nat.zero_add, Nat.reduceAdd, Nat.reduceBEq, Bool.or_false, Bool.false_or, Bool.or_true, Bool.true_or, Bool.false_eq_true, ↓reduceIte, Act.put, List.setIfInBounds_toArray, List.set_cons_zero, List.set_cons_succ]
      simp only [h4]
      rw [if_pos (by rfl)]
      go_simp
      exact hK _ _ (Up.refl _) rfl
    · intro x w1 K hU hS hO hd hK
      have h5 : (x 5).v = .pointer (some ⟨gz, 0, none⟩) := kval (hd 5 (by decide)).1 rfl
      have h4 : (x 4).v = .bool true := kval (hd 4 (by decide)).1 rfl
      obtain ⟨k0, k1, -⟩ := cells2 ((Up.tr (up_drew _) (hS.upb rfl)).blk Tz)
      clear hd
      refine Veil.mk ?_; simp only [kgoal, putsFrom, depsOf, pu0, pu1, pu2, pu3, Nat.zero_add, Nat.reduceAdd, Nat.reduceBEq, Bool.or_false, Bool.false_or, Bool.or_true, Bool.true_or, Bool.false_eq_true, ↓reduceIte, Act.put, List.setIfInBounds_toArray, List.set_cons_zero, List.set_cons_succ]
      simp only [h5, h4]
      rw [if_pos (by rfl)]
      go_simp
      exact hK _ _ (Up.refl _) rfl
    · intro x w1 K hU hS hO hd hK
      have h6 : (x 6).v = .bool false := kval (hd 6 (by decide)).1 rfl
      have h4 : (x 4).v = .bool true := kval (hd 4 (by decide)).1 rfl
      clear hd
      refine Veil.mk ?_; simp only [kgoal, putsFrom, depsOf, pu0, pu1, pu2, pu3, Nat.zero_add, Nat.reduceAdd, Nat.reduceBEq, Bool.or_false, Bool.false_or, Bool.or_true, Bool.true_or, Bool.false_eq_true, ↓reduceIte, Act.put, List.setIfInBounds_toArray, List.set_cons_zero, List.set_cons_succ]
      simp only [h6, h4]
      rw [if_pos (by rfl)]
      go_simp
      exact hK _ _ (Up.refl _) rfl
    · intro x w1 K hU hS hO hd hK
      have h4 : (x 4).v = .bool true := kval (hd 4 (by decide)).1 rfl
      have h7 : (x 7).v = .bool true := kval (hd 7 (by decide)).1 rfl
      clear hd
      refine Veil.mk ?_; simp only [kgoal, putsFrom, depsOf, pu0, pu1, pu2, pu3, Nat.zero_add, Nat.reduceAdd, Nat.reduceBEq, Bool.or_false, Bool.false_or, Bool.or_true, Bool.true_or, Bool.false_eq_true, ↓reduceIte, Act.put, List.setIfInBounds_toArray, List.set_cons_zero, List.set_cons_succ]
      simp only [h4, h7]
      go_simp
      exact hK _ _ (Up.refl _) rfl
    · intro x w1 K hU hS hO hd hK
      have h8 : (x 8).v = .bool true := kval (hd 8 (by decide)).1 rfl
      clear hd
      refine Veil.mk ?_; simp only [kgoal, putsFrom, depsOf, pu0, pu1, pu2, pu3, Nat.zero_add, Nat.reduceAdd, Nat.reduceBEq, Bool.or_false, Bool.false_or, Bool.or_true, Bool.true_or, Bool.false_eq_true, ↓reduceIte, Act.put, List.setIfInBounds_toArray, List.set_cons_zero, List.set_cons_succ]
      simp only [h8]
      go_simp
      exact hK _ _ (Up.refl _) rfl
    · intro x w1 K hU hS hO hd hK
      have h9 : (x 9).v = .bool true := kval (hd 9 (by decide)).1 rfl
      clear hd
      refine Veil.mk ?_; simp only [kgoal, putsFrom, depsOf, pu0, pu1, pu2, pu3, Nat.zero_add, Nat.reduceAdd, Nat.reduceBEq, Bool.or_false, Bool.false_or, Bool.or_true, Bool.true_or, Bool.false_eq_true, ↓reduceIte, Act.put, List.setIfInBounds_toArray, List.set_cons_zero, List.set_cons_succ]
      simp only [h9]
      rw [if_pos (by rfl)]
      go_simp
      exact hK _ _ (Up.refl _) rfl
    · intro x w1 K hU hS hO hd hK
      have h9 : (x 9).v = .bool true := kval (hd 9 (by decide)).1 rfl
      have h10 : (x 10).v = .bool true := kval (hd 10 (by decide)).1 rfl
      clear hd
      refine Veil.mk ?_; simp only [kgoal, putsFrom, depsOf, pu0, pu1, pu2, pu3, Nat.zero_add, Nat.reduceAdd, Nat.reduceBEq, Bool.or_false, Bool.false_or, Bool.or_true, Bool.true_or, Bool.false_eq_true, ↓reduceIte, Act.put, List.setIfInBounds_toArray, List.set_cons_zero, List.set_cons_succ]
      simp only [h9, h10]
      go_simp
      exact hK _ _ (Up.refl _) rfl
    · intro x w1 K hU hS hO hd hK
      have h11 : (x 11).v = .bool true := kval (hd 11 (by decide)).1 rfl
      clear hd
      refine Veil.mk ?_; simp only [kgoal, putsFrom, depsOf, pu0, pu1, pu2, pu3, Nat.zero_add, Nat.reduceAdd, Nat.reduceBEq, Bool.or_false, Bool.false_or, Bool.or_true, Bool.true_or, Bool.false_eq_true, ↓reduceIte, Act.put, List.setIfInBounds_toArray, List.set_cons_zero, List.set_cons_succ]
      simp only [h11]
      go_simp
      exact hK _ _ (Up.refl _) rfl
    · intro x w1 K hU hS hO hd hK
      have h12 : (x 12).v = .bool true := kval (hd 12 (by decide)).1 rfl
      obtain ⟨k0, k1, -⟩ := cells2 ((Up.tr (up_drew _) (hS.upb rfl)).blk Tp)
      clear hd
      refine Veil.mk ?_; simp only [kgoal, putsFrom, depsOf, pu0, pu1, pu2, pu3, Nat.zero_add, Nat.reduceAdd, Nat.reduceBEq, Bool.or_false, Bool.false_or, Bool.or_true, Bool.true_or, Bool.false_eq_true, ↓reduceIte, Act.put, List.setIfInBounds_toArray, List.set_cons_zero, List.set_cons_succ]
      simp only [h12]
      rw [if_pos (by rfl)]
      go_simp
      exact hK _ _ (Up.refl _) rfl
    · intro x w1 K hU hS hO hd hK
      have h12 : (x 12).v = .bool true := kval (hd 12 (by decide)).1 rfl
      obtain ⟨k0, k1, -⟩ := cells2 ((B3.tr (Up.tr (up_drew _) (hS.upb rfl))).blk (unhide K3).1)
      clear hd
      refine Veil.mk ?_; simp only [kgoal, putsFrom, depsOf, pu0, pu1, pu2, pu3, Nat.zero_add, Nat.reduceAdd, Nat.reduceBEq, Bool.or_false, Bool.false_or, Bool.or_true, Bool.true_or, Bool.false_eq_true, ↓reduceIte, Act.put, List.setIfInBounds_toArray, List.set_cons_zero, List.set_cons_succ]
      simp only [h12]
      rw [if_pos (by rfl)]
      go_simp
      exact hK _ _ (Up.refl _) rfl
    · intro x w1 K hU hS hO hd hK
      have h14 : (x 14).v = .agg #[.bool ba, .slice aoa na capa] := kval (hd 14 (by decide)).1 rfl
      have h12 : (x 12).v = .bool true := kval (hd 12 (by decide)).1 rfl
      clear hd
      refine Veil.mk ?_; simp only [kgoal, putsFrom, depsOf, pu0, pu1, pu2, pu3, Nat.zero_add, Nat.reduceAdd, Nat.reduceBEq, Bool.or_false, Bool.false_or, Bool.or_true, Bool.true_or, Bool.false_eq_true, ↓reduceIte, Act.put, List.setIfInBounds_toArray, List.set_cons_zero, List.set_cons_succ]
      simp only [h14, h12]
      rw [if_pos (by rfl)]
      go_simp
      refine (c_rd (M := na) (((unhide Ra).up hU)) (by omega)).mono ?_
      rintro e w2 ⟨v2, rfl, n2, u2⟩
      exact hK _ _ u2 n2
    · intro x w1 K hU hS hO hd hK
      have h13 : (x 13).v = .agg #[.bool bp, .slice aop np capp] := kval (hd 13 (by decide)).1 rfl
      have h15 : NumD (Xa) (na) w1 (x 15).lo (x 15).hi (x 15).v := kval (hd 15 (by decide)).1 rfl
      have h12 : (x 12).v = .bool true := kval (hd 12 (by decide)).1 rfl
      clear hd
      refine Veil.mk ?_; simp only [kgoal, putsFrom, depsOf, pu0, pu1, pu2, pu3, Nat.zero_add, Nat.reduceAdd, Nat.reduceBEq, Bool.or_false, Bool.false_or, Bool.or_true, Bool.true_or, Bool.false_eq_true, ↓reduceIte, Act.put, List.setIfInBounds_toArray, List.set_cons_zero, List.set_cons_succ]
      simp only [h13, h12]
      rw [if_pos (by rfl)]
      go_simp
      refine (cmp_rd (M := 18874400) (((unhide Cp).rd (M' := 18874400) (by omega)).up (Up.tr (up_drew _) (hS.upb rfl))) (h15.rd (by omega))).mono ?_
      rintro e w2 ⟨v2, rfl, n2, u2⟩
      rw [cmpZ_self] at n2
      exact hK _ _ u2 n2
    · intro x w1 K hU hS hO hd hK
      have h16 : (x 16).v = .int .i64 (0) := kval (hd 16 (by decide)).1 rfl
      have h12 : (x 12).v = .bool true := kval (hd 12 (by decide)).1 rfl
      clear hd
      refine Veil.mk ?_; simp only [kgoal, putsFrom, depsOf, pu0, pu1, pu2, pu3, Nat.zero_add, Nat.reduceAdd, Nat.reduceBEq, Bool.or_false, Bool.false_or, Bool.or_true, Bool.true_or, Bool.false_eq_true, ↓reduceIte, Act.put, List.setIfInBounds_toArray, List.set_cons_zero, List.set_cons_succ]
      simp only [h16, h12]
      rw [if_pos (by rfl)]
      go_simp
      exact hK _ _ (Up.refl _) rfl
    · intro x w1 K hU hS hO hd hK
      have h12 : (x 12).v = .bool true := kval (hd 12 (by decide)).1 rfl
      have h17 : (x 17).v = .bool true := kval (hd 17 (by decide)).1 rfl
      clear hd
      refine Veil.mk ?_; simp only [kgoal, putsFrom, depsOf, pu0, pu1, pu2, pu3, Nat.zero_add, Nat.reduceAdd, Nat.reduceBEq, Bool.or_false, Bool.false_or, Bool.or_true, Bool.true_or, Bool.false_eq_true, ↓reduceIte, Act.put, List.setIfInBounds_toArray, List.set_cons_zero, List.set_cons_succ]
      simp only [h12, h17]
      go_simp
      exact hK _ _ (Up.refl _) rfl
    · intro x w1 K hU hS hO hd hK
      have h18 : (x 18).v = .bool true := kval (hd 18 (by decide)).1 rfl
      clear hd
      refine Veil.mk ?_; simp only [kgoal, putsFrom, depsOf, pu0, pu1, pu2, pu3, Nat.zero_add, Nat.reduceAdd, Nat.reduceBEq, Bool.or_false, Bool.false_or, Bool.or_true, Bool.true_or, Bool.false_eq_true, ↓reduceIte, Act.put, List.setIfInBounds_toArray, List.set_cons_zero, List.set_cons_succ]
      simp only [h18]
      go_simp
      exact hK _ _ (Up.refl _) rfl
    · intro x w1 K hU hS hO hd hK
      have h19 : (x 19).v = .bool true := kval (hd 19 (by decide)).1 rfl
      obtain ⟨k0, k1, -⟩ := cells2 ((Up.tr (up_drew _) (hS.upb rfl)).blk Tp)
      clear hd
      refine Veil.mk ?_; simp only [kgoal, putsFrom, depsOf, pu0, pu1, pu2, pu3, Nat.zero_add, Nat.reduceAdd, Nat.reduceBEq, Bool.or_false, Bool.false_or, Bool.or_true, Bool.true_or, Bool.false_eq_true, ↓reduceIte, Act.put, List.setIfInBounds_toArray, List.set_cons_zero, List.set_cons_succ]
      simp only [h19]
      rw [if_pos (by rfl)]
      go_simp
      exact hK _ _ (Up.refl _) rfl
    · intro x w1 K hU hS hO hd hK
      have h19 : (x 19).v = .bool true := kval (hd 19 (by decide)).1 rfl
      obtain ⟨k0, k1, -⟩ := cells2 ((B3.tr (Up.tr (up_drew _) (hS.upb rfl))).blk (unhide K3).1)
      clear hd
      refine Veil.mk ?_; simp only [kgoal, putsFrom, depsOf, pu0, pu1, pu2, pu3, Nat.zero_add, Nat.reduceAdd, Nat.reduceBEq, Bool.or_false, Bool.false_or, Bool.or_true, Bool.true_or, Bool.false_eq_true, ↓reduceIte, Act.put, List.setIfInBounds_toArray, List.set_cons_zero, List.set_cons_succ]
      simp only [h19]
      rw [if_pos (by rfl)]
      go_simp
      exact hK _ _ (Up.refl _) rfl
    · intro x w1 K hU hS hO hd hK
      have h21 : (x 21).v = .agg #[.bool ba, .slice aoa na capa] := kval (hd 21 (by decide)).1 rfl
      have h19 : (x 19).v = .bool true := kval (hd 19 (by decide)).1 rfl
      clear hd
      refine Veil.mk ?_; simp only [kgoal, putsFrom, depsOf, pu0, pu1, pu2, pu3, Nat.zero_add, Nat.reduceAdd, Nat.reduceBEq, Bool.or_false, Bool.false_or, Bool.or_true, Bool.true_or, Bool.false_eq_true, ↓reduceIte, Act.put, List.setIfInBounds_toArray, List.set_cons_zero, List.set_cons_succ]
      simp only [h21, h19]
      rw [if_pos (by rfl)]
      go_simp
      refine (c_rd (M := na) (((unhide Ra).up hU)) (by omega)).mono ?_
      rintro e w2 ⟨v2, rfl, n2, u2⟩
      exact hK _ _ u2 n2
    · intro x w1 K hU hS hO hd hK
      have h22 : NumD (Xa) (na) w1 (x 22).lo (x 22).hi (x 22).v := kval (hd 22 (by decide)).1 rfl
      have h19 : (x 19).v = .bool true := kval (hd 19 (by decide)).1 rfl
      obtain ⟨pa, qa, ra, ta, ea⟩ := (h22.rd (Nat.le_refl _)).agg
      clear hd
      refine Veil.mk ?_; simp only [kgoal, putsFrom, depsOf, pu0, pu1, pu2, pu3, Nat.zero_add, Nat.reduceAdd, Nat.reduceBEq, Bool.or_false, Bool.false_or, Bool.or_true, Bool.true_or, Bool.false_eq_true, ↓reduceIte, Act.put, List.setIfInBounds_toArray, List.set_cons_zero, List.set_cons_succ]
      simp only [ea, h19]
      rw [if_pos (by rfl)]
      go_simp
      exact hK _ _ (up_alloc _ _) ⟨rfl, by show w1.heap.size < (w1.alloc _).heap.size; simp, _, _, by show [(x 22).v] = _; rw [ea], heap_alloc_new w1 _⟩
    · intro x w1 K hU hS hO hd hK
      have h23 : Pair1 w1 (x 23) [(x 22).v] := kval (hd 23 (by decide)).1 rfl
      have h22 : NumD (Xa) (na) w1 (x 22).lo (x 22).hi (x 22).v := kval (hd 22 (by decide)).1 rfl
      have h19 : (x 19).v = .bool true := kval (hd 19 (by decide)).1 rfl
      obtain ⟨ep, -, b1, v1, ql, hb⟩ := h23
      have ea := (List.cons.inj ql).1
      rw [ea] at h22
      clear hd
      refine Veil.mk ?_; simp only [kgoal, putsFrom, depsOf, pu0, pu1, pu2, pu3, Nat.zero_add, Nat.reduceAdd, Nat.reduceBEq, Bool.or_false, Bool.false_or, Bool.or_true, Bool.true_or, Bool.false_eq_true, ↓reduceIte, Act.put, List.setIfInBounds_toArray, List.set_cons_zero, List.set_cons_succ]
      simp only [ep, h19]
      rw [if_pos (by rfl)]
      go_simp
      refine (add1_rd (M := na) hb (h22.rd (by omega)) (by omega)).mono ?_
      rintro e w2 ⟨v2, rfl, n2, u2⟩
      exact hK _ _ u2 n2
    · intro x w1 K hU hS hO hd hK
      have h20 : (x 20).v = .agg #[.bool bp, .slice aop np capp] := kval (hd 20 (by decide)).1 rfl
      have h24 : NumIn (Xa) (na + 1) w1 (x 24).lo (x 24).hi (x 24).v := kval (hd 24 (by decide)).1 rfl
      have h19 : (x 19).v = .bool true := kval (hd 19 (by decide)).1 rfl
      clear hd
      refine Veil.mk ?_; simp only [kgoal, putsFrom, depsOf, pu0, pu1, pu2, pu3, Nat.zero_add, Nat.reduceAdd, Nat.reduceBEq, Bool.or_false, Bool.false_or, Bool.or_true, Bool.true_or, Bool.false_eq_true, ↓reduceIte, Act.put, List.setIfInBounds_toArray, List.set_cons_zero, List.set_cons_succ]
      simp only [h20, h19]
      rw [if_pos (by rfl)]
      go_simp
      refine (same_rd ((unhide Cp).up (Up.tr (up_drew _) (hS.upb rfl))) h24.rc (rfl)).mono ?_
      rintro e w2 ⟨v2, rfl, n2, u2⟩
      exact hK _ _ u2 n2
    · intro x w1 K hU hS hO hd hK
      have h19 : (x 19).v = .bool true := kval (hd 19 (by decide)).1 rfl
      have h25 : (x 25).v = .bool true := kval (hd 25 (by decide)).1 rfl
      clear hd
      refine Veil.mk ?_; simp only [kgoal, putsFrom, depsOf, pu0, pu1, pu2, pu3, Nat.zero_add, Nat.reduceAdd, Nat.reduceBEq, Bool.or_false, Bool.false_or, Bool.or_true, Bool.true_or, Bool.false_eq_true, ↓reduceIte, Act.put, List.setIfInBounds_toArray, List.set_cons_zero, List.set_cons_succ]
      simp only [h19, h25]
      go_simp
      exact hK _ _ (Up.refl _) rfl
    · intro x w1 K hU hS hO hd hK
      have h26 : (x 26).v = .bool true := kval (hd 26 (by decide)).1 rfl
      clear hd
      refine Veil.mk ?_; simp only [kgoal, putsFrom, depsOf, pu0, pu1, pu2, pu3, Nat.zero_add, Nat.reduceAdd, Nat.reduceBEq, Bool.or_false, Bool.false_or, Bool.or_true, Bool.true_or, Bool.false_eq_true, ↓reduceIte, Act.put, List.setIfInBounds_toArray, List.set_cons_zero, List.set_cons_succ]
      simp only [h26]
      go_simp
      exact hK _ _ (Up.refl _) rfl
    · intro x w1 K hU hS hO hd hK
      have h27 : (x 27).v = .bool true := kval (hd 27 (by decide)).1 rfl
      clear hd
      refine Veil.mk ?_; simp only [kgoal, putsFrom, depsOf, pu0, pu1, pu2, pu3, Nat.zero_add, Nat.reduceAdd, Nat.reduceBEq, Bool.or_false, Bool.false_or, Bool.or_true, Bool.true_or, Bool.false_eq_true, ↓reduceIte, Act.put, List.setIfInBounds_toArray, List.set_cons_zero, List.set_cons_succ]
      simp only [h27]
      rw [if_pos (by rfl)]
      go_simp
      refine (awake_rd ((unhide HT).up hU)).mono ?_
      rintro e w2 ⟨v2, rfl, n2, u2⟩
      exact hK _ _ u2 n2
    · intro x w1 K hU hS hO hd hK
      have h27 : (x 27).v = .bool true := kval (hd 27 (by decide)).1 rfl
      have h28 : (x 28).v = .bool true := kval (hd 28 (by decide)).1 rfl
      clear hd
      refine Veil.mk ?_; simp only [kgoal, putsFrom, depsOf, pu0, pu1, pu2, pu3, Nat.zero_add, Nat.reduceAdd, Nat.reduceBEq, Bool.or_false, Bool.false_or, Bool.or_true, Bool.true_or, Bool.false_eq_true, ↓reduceIte, Act.put, List.setIfInBounds_toArray, List.set_cons_zero, List.set_cons_succ]
      simp only [h27, h28]
      go_simp
      exact hK _ _ (Up.refl _) rfl
    · intro x w1 K hU hS hO hd hK
      have h29 : (x 29).v = .bool true := kval (hd 29 (by decide)).1 rfl
      clear hd
      refine Veil.mk ?_; simp only [kgoal, putsFrom, depsOf, pu0, pu1, pu2, pu3, Nat.zero_add, Nat.reduceAdd, Nat.reduceBEq, Bool.or_false, Bool.false_or, Bool.or_true, Bool.true_or, Bool.false_eq_true, ↓reduceIte, Act.put, List.setIfInBounds_toArray, List.set_cons_zero, List.set_cons_succ]
      simp only [h29]
      go_simp
      exact hK _ _ (Up.refl _) rfl
    intro x w1 hU hS hR hlo hdis
    have hfin : (x 30).v = .bool true := kval (hR 30 (by decide)) rfl
    have hG := Up.tr (up_drew _) (hS.upb rfl)
    refine Veil.mk ?_; simp only [kgoal, putsFrom, depsOf, pu0, pu1, pu2, pu3, Nat.zero_add, Nat.reduceAdd, Nat.reduceBEq, Bool.or_false, Bool.false_or, Bool.or_true, Bool.true_or, Bool.false_eq_true, ↓reduceIte, Act.put, List.setIfInBounds_toArray, List.set_cons_zero, List.set_cons_succ]
    rw [hfin]
    generalize (x 0).v = z0v
    generalize (x 1).v = z1v
    generalize (x 2).v = z2v
    generalize (x 3).v = z3v
    generalize (x 4).v = z4v
    generalize (x 5).v = z5v
    generalize (x 6).v = z6v
    generalize (x 7).v = z7v
    generalize (x 8).v = z8v
    generalize (x 9).v = z9v
    generalize (x 10).v = z10v
    generalize (x 11).v = z11v
    generalize (x 12).v = z12v
    generalize (x 13).v = z13v
    generalize (x 14).v = z14v
    generalize (x 15).v = z15v
    generalize (x 16).v = z16v
    generalize (x 17).v = z17v
    generalize (x 18).v = z18v
    generalize (x 19).v = z19v
    generalize (x 20).v = z20v
    generalize (x 21).v = z21v
    generalize (x 22).v = z22v
    generalize (x 23).v = z23v
    generalize (x 24).v = z24v
    generalize (x 25).v = z25v
    generalize (x 26).v = z26v
    generalize (x 27).v = z27v
    generalize (x 28).v = z28v
    generalize (x 29).v = z29v
    clear hR hlo hdis hS hfin
    go_wp2_with fail
    go_ret
    exact ⟨rfl, hU⟩


end Go.Proofs.YtkmpobmpencefaaDoor
