/-
  What is proved here: tandemlaw02.NumSmalls answers true for all numbers of up to 2^20 limbs.
-/
import Derived.Test.YtdiacbfdfoeemaaDoorR2Con
namespace Go.Proofs.YtdiacbfdfoeemaaDoor
open Go Go.RowKit

/-! Short names, for the text's length. -/
theorem pz0 (b : Bool) : (b || false) = b := Bool.or_false b
theorem pz1 (b : Bool) : (false || b) = b := Bool.false_or b
theorem pz2 (b : Bool) : (b || true) = true := Bool.or_true b
theorem pz3 (b : Bool) : (true || b) = true := Bool.true_or b
theorem pz4 : (false = true) = False := by simp
theorem pz5 (n : Nat) : 0 + n = n := Nat.zero_add n
theorem pz6 {α : Type} {l : List α} {i : Nat} {a : α} : l.toArray.setIfInBounds i a = (l.set i a).toArray := List.setIfInBounds_toArray ..
theorem pz7 {α : Type} {x : α} {xs : List α} {a : α} : (x :: xs).set 0 a = a :: xs := rfl
theorem pz8 {α : Type} {x : α} {xs : List α} {i : Nat} {a : α} : (x :: xs).set (i + 1) a = x :: xs.set i a := rfl

set_option linter.unusedSimpArgs false in
set_option maxRecDepth 60000 in
set_option maxHeartbeats 4000000 in
theorem smalls_walk (z : Int) (aa : Value) (ba : Bool) (na : Nat) (fa : Nat → Nat) (ab : Value) (bb : Bool) (nb : Nat) (fb : Nat → Nat) (w : World) (haa : Nm w aa ba na fa) (hab : Nm w ab bb nb fb) (hfa : ∀ i, i < na → fa i < 4294967296) (hfb : ∀ i, i < nb → fb i < 4294967296) (hz1 : -9223372036854775808 ≤ z) (hz2 : z ≤ 9223372036854775807) (hna : na ≤ 1048576) (hnb : nb ≤ 1048576) (htab : Tab w) :
    Calls Tryd.prog 5 #[.int .i64 z, aa, ab] w fun e w' => e = .returned (.bool true) ∧ Up w w' := by
  obtain ⟨va, rfl, hva⟩ := haa
  obtain ⟨aoa, capa, rfl, -⟩ := id hva
  obtain ⟨Xa, hXa⟩ : ∃ X, sgn ba (num 4294967296 fa na) = X := ⟨_, rfl⟩
  have Ra := hide (show RdD Xa na w (.agg #[.bool ba, .slice aoa na capa]) from ⟨ba, na, fa, ⟨_, rfl, hva⟩, hfa, Nat.le_refl _, hXa⟩)
  obtain ⟨vb, rfl, hvb⟩ := hab
  obtain ⟨aob, capb, rfl, -⟩ := id hvb
  obtain ⟨Xb, hXb⟩ : ∃ X, sgn bb (num 4294967296 fb nb) = X := ⟨_, rfl⟩
  have Rb := hide (show RdD Xb nb w (.agg #[.bool bb, .slice aob nb capb]) from ⟨bb, nb, fb, ⟨_, rfl, hvb⟩, hfb, Nat.le_refl _, hXb⟩)
  have HT := hide htab
  clear htab hva hfa hXa hvb hfb hXb
  have K2 := hide (two_blocks w (.cells #[.bool ba, .slice aoa na capa] 26) (.cells #[.bool bb, .slice aob nb capb] 26))
  have U0 := (up_alloc w (.cells #[.bool ba, .slice aoa na capa] 26)).tr (up_alloc _ (.cells #[.bool bb, .slice aob nb capb] 26))
  go_enter Tryd.func5, Tryd.ntmps5
  go_wp2_with fail
  refine (c_rd ((unhide Ra).up U0) (by omega)).mono ?_
  rintro e w1 ⟨v1, rfl, h1, u1⟩
  obtain ⟨p1, q1, r1, t1, rfl⟩ := (h1.rd (Nat.le_refl _)).agg
  go_wp2_with fail
  refine (small_rd (h1.rd (Nat.le_refl _))).mono ?_
  rintro e w2 ⟨rfl, u2⟩
  have B2 := u1.tr u2
  obtain ⟨k0, k1, -⟩ := cells2 (B2.blk (unhide K2).1)
  clear h1 u1 u2
  go_wp2_with fail
  refine (r2small_rd ((unhide Ra).up (U0.tr B2)) (by omega)).mono ?_
  rintro e w3 ⟨rfl, u3⟩
  have B3 := B2.tr u3
  have U3 := U0.tr B3
  clear k0 k1 B2 u3
  go_wp2_with fail
  refine wp_region_knd (by kernel_rfl) w U3 [[], [0], [], [2], [1, 3], [4], [5], [5], [6, 7, 5], [5, 8], [9], [10], [10], [11, 12, 10], [10, 13], [14], [15], [16, 15], [15], [18, 15], [17, 19, 15], [15], [15], [21, 22, 15], [20, 23, 15], [15, 24], [25], [26], [27, 26], [28, 26], [26], [30, 26], [29, 31, 26], [26, 32], [33], [34], [35, 34], [34], [37, 34], [36, 38, 34], [34], [34], [40, 41, 34], [39, 42, 34], [34, 43], [44], [45], [45, 46], [47]] (Knd.val [] (fun _ g _ => g.v = .int .i64 z) :: Knd.val [] (fun w g _ => NumIn (z) (2) w g.lo g.hi g.v) :: Knd.val [] (fun _ g _ => g.v = .int .i64 z) :: Knd.val [] (fun w g _ => NumIn (z) (2) w g.lo g.hi g.v) :: Knd.val [] (fun _ g _ => g.v = .bool true) :: Knd.val [] (fun _ g _ => g.v = .bool true) :: Knd.val [] (fun _ g _ => g.v = .int .i64 (smallV Xa)) :: Knd.val [] (fun _ g _ => g.v = .int .i64 (smallV Xa)) :: Knd.val [] (fun _ g _ => g.v = .bool true) :: Knd.val [] (fun _ g _ => g.v = .bool true) :: Knd.val [] (fun _ g _ => g.v = .bool true) :: Knd.val [] (fun _ g _ => g.v = .bool (smallB Xa)) :: Knd.val [] (fun _ g _ => g.v = .bool (smallB Xa)) :: Knd.val [] (fun _ g _ => g.v = .bool true) :: Knd.val [] (fun _ g _ => g.v = .bool true) :: Knd.val [] (fun _ g _ => g.v = .bool true) :: Knd.val [] (fun _ g _ => g.v = .agg #[.bool ba, .slice aoa na capa]) :: Knd.val [] (fun w g _ => NumD (Xa) (na) w g.lo g.hi g.v) :: Knd.val [] (fun _ g _ => g.v = .agg #[.bool bb, .slice aob nb capb]) :: Knd.val [] (fun w g _ => NumD (Xb) (nb) w g.lo g.hi g.v) :: Knd.val [] (fun w g _ => NumIn (Xa - Xb) (1048576 + 1) w g.lo g.hi g.v) :: Knd.val [] (fun _ g _ => g.v = .agg #[.bool ba, .slice aoa na capa]) :: Knd.val [] (fun _ g _ => g.v = .agg #[.bool bb, .slice aob nb capb]) :: Knd.val [] (fun w g _ => NumIn (Xa + -Xb) (1048576 + 1) w g.lo g.hi g.v) :: Knd.val [] (fun _ g _ => g.v = .bool true) :: Knd.val [] (fun _ g _ => g.v = .bool true) :: Knd.val [] (fun _ g _ => g.v = .bool true) :: Knd.val [] (fun _ g _ => g.v = .agg #[.bool ba, .slice aoa na capa]) :: Knd.val [] (fun w g _ => NumD (Xa) (na) w g.lo g.hi g.v) :: Knd.val [] (fun w g _ => NumIn (-(Xa)) (na) w g.lo g.hi g.v) :: Knd.val [] (fun _ g _ => g.v = .agg #[.bool ba, .slice aoa na capa]) :: Knd.val [] (fun w g _ => NumIn (-(Xa)) (na) w g.lo g.hi g.v) :: Knd.val [] (fun _ g _ => g.v = .bool true) :: Knd.val [] (fun _ g _ => g.v = .bool true) :: Knd.val [] (fun _ g _ => g.v = .bool true) :: Knd.val [] (fun _ g _ => g.v = .agg #[.bool ba, .slice aoa na capa]) :: Knd.val [] (fun w g _ => NumD (Xa) (na) w g.lo g.hi g.v) :: Knd.val [] (fun _ g _ => g.v = .agg #[.bool bb, .slice aob nb capb]) :: Knd.val [] (fun w g _ => NumD (Xb) (nb) w g.lo g.hi g.v) :: Knd.val [] (fun _ g _ => g.v = .int .i64 (cmpZ (Xa) (Xb))) :: Knd.val [] (fun _ g _ => g.v = .agg #[.bool ba, .slice aoa na capa]) :: Knd.val [] (fun _ g _ => g.v = .agg #[.bool bb, .slice aob nb capb]) :: Knd.val [] (fun _ g _ => g.v = .int .i64 (cmpZ (Xa) (Xb))) :: Knd.val [] (fun _ g _ => g.v = .bool true) :: Knd.val [] (fun _ g _ => g.v = .bool true) :: Knd.val [] (fun _ g _ => g.v = .bool true) :: Knd.val [] (fun _ g _ => g.v = .bool true) :: Knd.val [] (fun _ g _ => g.v = .bool true) :: Knd.val [] (fun _ g _ => g.v = .bool true) :: []) (by kernel_rfl) (by kernel_rfl) rfl ⟨trivial, trivial, trivial, trivial, trivial, trivial, trivial, trivial, trivial, trivial, trivial, trivial, trivial, trivial, trivial, trivial, trivial, trivial, trivial, trivial, trivial, trivial, trivial, trivial, trivial, trivial, trivial, trivial, trivial, trivial, trivial, trivial, trivial, trivial, trivial, trivial, trivial, trivial, trivial, trivial, trivial, trivial, trivial, trivial, trivial, trivial, trivial, trivial, trivial, trivial⟩ ⟨fun _ _ _ _ _ h => h, fun _ _ _ _ hb h => h.keep hb, fun _ _ _ _ _ h => h, fun _ _ _ _ hb h => h.keep hb, fun _ _ _ _ _ h => h, fun _ _ _ _ _ h => h, fun _ _ _ _ _ h => h, fun _ _ _ _ _ h => h, fun _ _ _ _ _ h => h, fun _ _ _ _ _ h => h, fun _ _ _ _ _ h => h, fun _ _ _ _ _ h => h, fun _ _ _ _ _ h => h, fun _ _ _ _ _ h => h, fun _ _ _ _ _ h => h, fun _ _ _ _ _ h => h, fun _ _ _ _ _ h => h, fun _ _ _ _ hb h => h.keep hb, fun _ _ _ _ _ h => h, fun _ _ _ _ hb h => h.keep hb, fun _ _ _ _ hb h => h.keep hb, fun _ _ _ _ _ h => h, fun _ _ _ _ _ h => h, fun _ _ _ _ hb h => h.keep hb, fun _ _ _ _ _ h => h, fun _ _ _ _ _ h => h, fun _ _ _ _ _ h => h, fun _ _ _ _ _ h => h, fun _ _ _ _ hb h => h.keep hb, fun _ _ _ _ hb h => h.keep hb, fun _ _ _ _ _ h => h, fun _ _ _ _ hb h => h.keep hb, fun _ _ _ _ _ h => h, fun _ _ _ _ _ h => h, fun _ _ _ _ _ h => h, fun _ _ _ _ _ h => h, fun _ _ _ _ hb h => h.keep hb, fun _ _ _ _ _ h => h, fun _ _ _ _ hb h => h.keep hb, fun _ _ _ _ _ h => h, fun _ _ _ _ _ h => h, fun _ _ _ _ _ h => h, fun _ _ _ _ _ h => h, fun _ _ _ _ _ h => h, fun _ _ _ _ _ h => h, fun _ _ _ _ _ h => h, fun _ _ _ _ _ h => h, fun _ _ _ _ _ h => h, fun _ _ _ _ _ h => h, trivial⟩ ⟨?_, ?_, ?_, ?_, ?_, ?_, ?_, ?_, ?_, ?_, ?_, ?_, ?_, ?_, ?_, ?_, ?_, ?_, ?_, ?_, ?_, ?_, ?_, ?_, ?_, ?_, ?_, ?_, ?_, ?_, ?_, ?_, ?_, ?_, ?_, ?_, ?_, ?_, ?_, ?_, ?_, ?_, ?_, ?_, ?_, ?_, ?_, ?_, ?_, trivial⟩ ?_
  · intro x w1 K hU hS hO hd hK
    clear hd
    refine ⟨?_⟩; simp only [kgoal, putsFrom, depsOf, pu0, pu1, pu2, pu3, pz0, pz1, pz2, pz3, pz4, pz5, pz6, pz7, pz8, Nat.reduceAdd, Nat.reduceBEq, ↓reduceIte, Act.put]
    go_simp
    exact hK _ _ (Up.refl _) rfl
  · intro x w1 K hU hS hO hd hK
    have h0 : (x 0).v = .int .i64 z := kval (hd 0 (by decide)).1 rfl
    clear hd
    refine ⟨?_⟩; simp only [kgoal, putsFrom, depsOf, pu0, pu1, pu2, pu3, pz0, pz1, pz2, pz3, pz4, pz5, pz6, pz7, pz8, Nat.reduceAdd, Nat.reduceBEq, ↓reduceIte, Act.put]
    simp only [h0]
    go_simp
    refine (of_rd (z) _ hz1 hz2).mono ?_
    rintro e w2 ⟨v2, rfl, n2, u2⟩
    exact hK _ _ u2 n2
  · intro x w1 K hU hS hO hd hK
    clear hd
    refine ⟨?_⟩; simp only [kgoal, putsFrom, depsOf, pu0, pu1, pu2, pu3, pz0, pz1, pz2, pz3, pz4, pz5, pz6, pz7, pz8, Nat.reduceAdd, Nat.reduceBEq, ↓reduceIte, Act.put]
    go_simp
    exact hK _ _ (Up.refl _) rfl
  · intro x w1 K hU hS hO hd hK
    have h2 : (x 2).v = .int .i64 z := kval (hd 2 (by decide)).1 rfl
    clear hd
    refine ⟨?_⟩; simp only [kgoal, putsFrom, depsOf, pu0, pu1, pu2, pu3, pz0, pz1, pz2, pz3, pz4, pz5, pz6, pz7, pz8, Nat.reduceAdd, Nat.reduceBEq, ↓reduceIte, Act.put]
    simp only [h2]
    go_simp
    refine (r2int_rd (z) _ hz1 hz2).mono ?_
    rintro e w2 ⟨v2, rfl, n2, u2⟩
    exact hK _ _ u2 n2
  · intro x w1 K hU hS hO hd hK
    have h1 : NumIn (z) (2) w1 (x 1).lo (x 1).hi (x 1).v := kval (hd 1 (by decide)).1 rfl
    have h3 : NumIn (z) (2) w1 (x 3).lo (x 3).hi (x 3).v := kval (hd 3 (by decide)).1 rfl
    clear hd
    refine ⟨?_⟩; simp only [kgoal, putsFrom, depsOf, pu0, pu1, pu2, pu3, pz0, pz1, pz2, pz3, pz4, pz5, pz6, pz7, pz8, Nat.reduceAdd, Nat.reduceBEq, ↓reduceIte, Act.put]
    go_simp
    refine (same_rd h1.rc h3.rc (rfl)).mono ?_
    rintro e w2 ⟨v2, rfl, n2, u2⟩
    exact hK _ _ u2 n2
  · intro x w1 K hU hS hO hd hK
    have h4 : (x 4).v = .bool true := kval (hd 4 (by decide)).1 rfl
    clear hd
    refine ⟨?_⟩; simp only [kgoal, putsFrom, depsOf, pu0, pu1, pu2, pu3, pz0, pz1, pz2, pz3, pz4, pz5, pz6, pz7, pz8, Nat.reduceAdd, Nat.reduceBEq, ↓reduceIte, Act.put]
    simp only [h4]
    go_simp
    exact hK _ _ (Up.refl _) rfl
  · intro x w1 K hU hS hO hd hK
    have h5 : (x 5).v = .bool true := kval (hd 5 (by decide)).1 rfl
    clear hd
    refine ⟨?_⟩; simp only [kgoal, putsFrom, depsOf, pu0, pu1, pu2, pu3, pz0, pz1, pz2, pz3, pz4, pz5, pz6, pz7, pz8, Nat.reduceAdd, Nat.reduceBEq, ↓reduceIte, Act.put]
    simp only [h5]
    rw [if_pos (by rfl)]
    go_simp
    exact hK _ _ (Up.refl _) rfl
  · intro x w1 K hU hS hO hd hK
    have h5 : (x 5).v = .bool true := kval (hd 5 (by decide)).1 rfl
    clear hd
    refine ⟨?_⟩; simp only [kgoal, putsFrom, depsOf, pu0, pu1, pu2, pu3, pz0, pz1, pz2, pz3, pz4, pz5, pz6, pz7, pz8, Nat.reduceAdd, Nat.reduceBEq, ↓reduceIte, Act.put]
    simp only [h5]
    rw [if_pos (by rfl)]
    go_simp
    exact hK _ _ (Up.refl _) rfl
  · intro x w1 K hU hS hO hd hK
    have h6 : (x 6).v = .int .i64 (smallV Xa) := kval (hd 6 (by decide)).1 rfl
    have h7 : (x 7).v = .int .i64 (smallV Xa) := kval (hd 7 (by decide)).1 rfl
    have h5 : (x 5).v = .bool true := kval (hd 5 (by decide)).1 rfl
    clear hd
    refine ⟨?_⟩; simp only [kgoal, putsFrom, depsOf, pu0, pu1, pu2, pu3, pz0, pz1, pz2, pz3, pz4, pz5, pz6, pz7, pz8, Nat.reduceAdd, Nat.reduceBEq, ↓reduceIte, Act.put]
    simp only [h6, h7, h5]
    rw [if_pos (by rfl)]
    go_simp
    exact hK _ _ (Up.refl _) rfl
  · intro x w1 K hU hS hO hd hK
    have h5 : (x 5).v = .bool true := kval (hd 5 (by decide)).1 rfl
    have h8 : (x 8).v = .bool true := kval (hd 8 (by decide)).1 rfl
    clear hd
    refine ⟨?_⟩; simp only [kgoal, putsFrom, depsOf, pu0, pu1, pu2, pu3, pz0, pz1, pz2, pz3, pz4, pz5, pz6, pz7, pz8, Nat.reduceAdd, Nat.reduceBEq, ↓reduceIte, Act.put]
    simp only [h5, h8]
    go_simp
    exact hK _ _ (Up.refl _) rfl
  · intro x w1 K hU hS hO hd hK
    have h9 : (x 9).v = .bool true := kval (hd 9 (by decide)).1 rfl
    clear hd
    refine ⟨?_⟩; simp only [kgoal, putsFrom, depsOf, pu0, pu1, pu2, pu3, pz0, pz1, pz2, pz3, pz4, pz5, pz6, pz7, pz8, Nat.reduceAdd, Nat.reduceBEq, ↓reduceIte, Act.put]
    simp only [h9]
    go_simp
    exact hK _ _ (Up.refl _) rfl
  · intro x w1 K hU hS hO hd hK
    have h10 : (x 10).v = .bool true := kval (hd 10 (by decide)).1 rfl
    clear hd
    refine ⟨?_⟩; simp only [kgoal, putsFrom, depsOf, pu0, pu1, pu2, pu3, pz0, pz1, pz2, pz3, pz4, pz5, pz6, pz7, pz8, Nat.reduceAdd, Nat.reduceBEq, ↓reduceIte, Act.put]
    simp only [h10]
    rw [if_pos (by rfl)]
    go_simp
    exact hK _ _ (Up.refl _) rfl
  · intro x w1 K hU hS hO hd hK
    have h10 : (x 10).v = .bool true := kval (hd 10 (by decide)).1 rfl
    clear hd
    refine ⟨?_⟩; simp only [kgoal, putsFrom, depsOf, pu0, pu1, pu2, pu3, pz0, pz1, pz2, pz3, pz4, pz5, pz6, pz7, pz8, Nat.reduceAdd, Nat.reduceBEq, ↓reduceIte, Act.put]
    simp only [h10]
    rw [if_pos (by rfl)]
    go_simp
    exact hK _ _ (Up.refl _) rfl
  · intro x w1 K hU hS hO hd hK
    have h11 : (x 11).v = .bool (smallB Xa) := kval (hd 11 (by decide)).1 rfl
    have h12 : (x 12).v = .bool (smallB Xa) := kval (hd 12 (by decide)).1 rfl
    have h10 : (x 10).v = .bool true := kval (hd 10 (by decide)).1 rfl
    clear hd
    refine ⟨?_⟩; simp only [kgoal, putsFrom, depsOf, pu0, pu1, pu2, pu3, pz0, pz1, pz2, pz3, pz4, pz5, pz6, pz7, pz8, Nat.reduceAdd, Nat.reduceBEq, ↓reduceIte, Act.put]
    simp only [h11, h12, h10]
    rw [if_pos (by rfl)]
    go_simp
    exact hK _ _ (Up.refl _) rfl
  · intro x w1 K hU hS hO hd hK
    have h10 : (x 10).v = .bool true := kval (hd 10 (by decide)).1 rfl
    have h13 : (x 13).v = .bool true := kval (hd 13 (by decide)).1 rfl
    clear hd
    refine ⟨?_⟩; simp only [kgoal, putsFrom, depsOf, pu0, pu1, pu2, pu3, pz0, pz1, pz2, pz3, pz4, pz5, pz6, pz7, pz8, Nat.reduceAdd, Nat.reduceBEq, ↓reduceIte, Act.put]
    simp only [h10, h13]
    go_simp
    exact hK _ _ (Up.refl _) rfl
  · intro x w1 K hU hS hO hd hK
    have h14 : (x 14).v = .bool true := kval (hd 14 (by decide)).1 rfl
    clear hd
    refine ⟨?_⟩; simp only [kgoal, putsFrom, depsOf, pu0, pu1, pu2, pu3, pz0, pz1, pz2, pz3, pz4, pz5, pz6, pz7, pz8, Nat.reduceAdd, Nat.reduceBEq, ↓reduceIte, Act.put]
    simp only [h14]
    go_simp
    exact hK _ _ (Up.refl _) rfl
  · intro x w1 K hU hS hO hd hK
    have h15 : (x 15).v = .bool true := kval (hd 15 (by decide)).1 rfl
    obtain ⟨k0, k1, -⟩ := cells2 ((B3.tr (Up.tr (up_drew _) (hS.upb rfl))).blk (unhide K2).1)
    clear hd
    refine ⟨?_⟩; simp only [kgoal, putsFrom, depsOf, pu0, pu1, pu2, pu3, pz0, pz1, pz2, pz3, pz4, pz5, pz6, pz7, pz8, Nat.reduceAdd, Nat.reduceBEq, ↓reduceIte, Act.put]
    simp only [h15]
    rw [if_pos (by rfl)]
    go_simp
    exact hK _ _ (Up.refl _) rfl
  · intro x w1 K hU hS hO hd hK
    have h16 : (x 16).v = .agg #[.bool ba, .slice aoa na capa] := kval (hd 16 (by decide)).1 rfl
    have h15 : (x 15).v = .bool true := kval (hd 15 (by decide)).1 rfl
    clear hd
    refine ⟨?_⟩; simp only [kgoal, putsFrom, depsOf, pu0, pu1, pu2, pu3, pz0, pz1, pz2, pz3, pz4, pz5, pz6, pz7, pz8, Nat.reduceAdd, Nat.reduceBEq, ↓reduceIte, Act.put]
    simp only [h16, h15]
    rw [if_pos (by rfl)]
    go_simp
    refine (c_rd (M := na) ((RdD.wide (M' := na) ((unhide Ra).up hU) (by omega))) (by omega)).mono ?_
    rintro e w2 ⟨v2, rfl, n2, u2⟩
    exact hK _ _ u2 n2
  · intro x w1 K hU hS hO hd hK
    have h15 : (x 15).v = .bool true := kval (hd 15 (by decide)).1 rfl
    obtain ⟨k0, k1, -⟩ := cells2 ((B3.tr (Up.tr (up_drew _) (hS.upb rfl))).blk (unhide K2).2)
    clear hd
    refine ⟨?_⟩; simp only [kgoal, putsFrom, depsOf, pu0, pu1, pu2, pu3, pz0, pz1, pz2, pz3, pz4, pz5, pz6, pz7, pz8, Nat.reduceAdd, Nat.reduceBEq, ↓reduceIte, Act.put]
    simp only [h15]
    rw [if_pos (by rfl)]
    go_simp
    exact hK _ _ (Up.refl _) rfl
  · intro x w1 K hU hS hO hd hK
    have h18 : (x 18).v = .agg #[.bool bb, .slice aob nb capb] := kval (hd 18 (by decide)).1 rfl
    have h15 : (x 15).v = .bool true := kval (hd 15 (by decide)).1 rfl
    clear hd
    refine ⟨?_⟩; simp only [kgoal, putsFrom, depsOf, pu0, pu1, pu2, pu3, pz0, pz1, pz2, pz3, pz4, pz5, pz6, pz7, pz8, Nat.reduceAdd, Nat.reduceBEq, ↓reduceIte, Act.put]
    simp only [h18, h15]
    rw [if_pos (by rfl)]
    go_simp
    refine (c_rd (M := nb) ((RdD.wide (M' := nb) ((unhide Rb).up hU) (by omega))) (by omega)).mono ?_
    rintro e w2 ⟨v2, rfl, n2, u2⟩
    exact hK _ _ u2 n2
  · intro x w1 K hU hS hO hd hK
    have h17 : NumD (Xa) (na) w1 (x 17).lo (x 17).hi (x 17).v := kval (hd 17 (by decide)).1 rfl
    have h19 : NumD (Xb) (nb) w1 (x 19).lo (x 19).hi (x 19).v := kval (hd 19 (by decide)).1 rfl
    have h15 : (x 15).v = .bool true := kval (hd 15 (by decide)).1 rfl
    clear hd
    refine ⟨?_⟩; simp only [kgoal, putsFrom, depsOf, pu0, pu1, pu2, pu3, pz0, pz1, pz2, pz3, pz4, pz5, pz6, pz7, pz8, Nat.reduceAdd, Nat.reduceBEq, ↓reduceIte, Act.put]
    simp only [h15]
    rw [if_pos (by rfl)]
    go_simp
    refine (sub_rd (M := 1048576) (h17.rd (by omega)) (h19.rd (by omega)) (by omega)).mono ?_
    rintro e w2 ⟨v2, rfl, n2, u2⟩
    exact hK _ _ u2 n2
  · intro x w1 K hU hS hO hd hK
    have h15 : (x 15).v = .bool true := kval (hd 15 (by decide)).1 rfl
    obtain ⟨k0, k1, -⟩ := cells2 ((B3.tr (Up.tr (up_drew _) (hS.upb rfl))).blk (unhide K2).1)
    clear hd
    refine ⟨?_⟩; simp only [kgoal, putsFrom, depsOf, pu0, pu1, pu2, pu3, pz0, pz1, pz2, pz3, pz4, pz5, pz6, pz7, pz8, Nat.reduceAdd, Nat.reduceBEq, ↓reduceIte, Act.put]
    simp only [h15]
    rw [if_pos (by rfl)]
    go_simp
    exact hK _ _ (Up.refl _) rfl
  · intro x w1 K hU hS hO hd hK
    have h15 : (x 15).v = .bool true := kval (hd 15 (by decide)).1 rfl
    obtain ⟨k0, k1, -⟩ := cells2 ((B3.tr (Up.tr (up_drew _) (hS.upb rfl))).blk (unhide K2).2)
    clear hd
    refine ⟨?_⟩; simp only [kgoal, putsFrom, depsOf, pu0, pu1, pu2, pu3, pz0, pz1, pz2, pz3, pz4, pz5, pz6, pz7, pz8, Nat.reduceAdd, Nat.reduceBEq, ↓reduceIte, Act.put]
    simp only [h15]
    rw [if_pos (by rfl)]
    go_simp
    exact hK _ _ (Up.refl _) rfl
  · intro x w1 K hU hS hO hd hK
    have h21 : (x 21).v = .agg #[.bool ba, .slice aoa na capa] := kval (hd 21 (by decide)).1 rfl
    have h22 : (x 22).v = .agg #[.bool bb, .slice aob nb capb] := kval (hd 22 (by decide)).1 rfl
    have h15 : (x 15).v = .bool true := kval (hd 15 (by decide)).1 rfl
    clear hd
    refine ⟨?_⟩; simp only [kgoal, putsFrom, depsOf, pu0, pu1, pu2, pu3, pz0, pz1, pz2, pz3, pz4, pz5, pz6, pz7, pz8, Nat.reduceAdd, Nat.reduceBEq, ↓reduceIte, Act.put]
    simp only [h21, h22, h15]
    rw [if_pos (by rfl)]
    go_simp
    refine (r2sub_rd (M := 1048576) ((RdD.wide (M' := 1048576) ((unhide Ra).up hU) (by omega))) ((RdD.wide (M' := 1048576) ((unhide Rb).up hU) (by omega))) (by omega)).mono ?_
    rintro e w2 ⟨v2, rfl, n2, u2⟩
    exact hK _ _ u2 n2
  · intro x w1 K hU hS hO hd hK
    have h20 : NumIn (Xa - Xb) (1048576 + 1) w1 (x 20).lo (x 20).hi (x 20).v := kval (hd 20 (by decide)).1 rfl
    have h23 : NumIn (Xa + -Xb) (1048576 + 1) w1 (x 23).lo (x 23).hi (x 23).v := kval (hd 23 (by decide)).1 rfl
    have h15 : (x 15).v = .bool true := kval (hd 15 (by decide)).1 rfl
    clear hd
    refine ⟨?_⟩; simp only [kgoal, putsFrom, depsOf, pu0, pu1, pu2, pu3, pz0, pz1, pz2, pz3, pz4, pz5, pz6, pz7, pz8, Nat.reduceAdd, Nat.reduceBEq, ↓reduceIte, Act.put]
    simp only [h15]
    rw [if_pos (by rfl)]
    go_simp
    refine (same_rd h20.rc h23.rc (by omega)).mono ?_
    rintro e w2 ⟨v2, rfl, n2, u2⟩
    exact hK _ _ u2 n2
  · intro x w1 K hU hS hO hd hK
    have h15 : (x 15).v = .bool true := kval (hd 15 (by decide)).1 rfl
    have h24 : (x 24).v = .bool true := kval (hd 24 (by decide)).1 rfl
    clear hd
    refine ⟨?_⟩; simp only [kgoal, putsFrom, depsOf, pu0, pu1, pu2, pu3, pz0, pz1, pz2, pz3, pz4, pz5, pz6, pz7, pz8, Nat.reduceAdd, Nat.reduceBEq, ↓reduceIte, Act.put]
    simp only [h15, h24]
    go_simp
    exact hK _ _ (Up.refl _) rfl
  · intro x w1 K hU hS hO hd hK
    have h25 : (x 25).v = .bool true := kval (hd 25 (by decide)).1 rfl
    clear hd
    refine ⟨?_⟩; simp only [kgoal, putsFrom, depsOf, pu0, pu1, pu2, pu3, pz0, pz1, pz2, pz3, pz4, pz5, pz6, pz7, pz8, Nat.reduceAdd, Nat.reduceBEq, ↓reduceIte, Act.put]
    simp only [h25]
    go_simp
    exact hK _ _ (Up.refl _) rfl
  · intro x w1 K hU hS hO hd hK
    have h26 : (x 26).v = .bool true := kval (hd 26 (by decide)).1 rfl
    obtain ⟨k0, k1, -⟩ := cells2 ((B3.tr (Up.tr (up_drew _) (hS.upb rfl))).blk (unhide K2).1)
    clear hd
    refine ⟨?_⟩; simp only [kgoal, putsFrom, depsOf, pu0, pu1, pu2, pu3, pz0, pz1, pz2, pz3, pz4, pz5, pz6, pz7, pz8, Nat.reduceAdd, Nat.reduceBEq, ↓reduceIte, Act.put]
    simp only [h26]
    rw [if_pos (by rfl)]
    go_simp
    exact hK _ _ (Up.refl _) rfl
  · intro x w1 K hU hS hO hd hK
    have h27 : (x 27).v = .agg #[.bool ba, .slice aoa na capa] := kval (hd 27 (by decide)).1 rfl
    have h26 : (x 26).v = .bool true := kval (hd 26 (by decide)).1 rfl
    clear hd
    refine ⟨?_⟩; simp only [kgoal, putsFrom, depsOf, pu0, pu1, pu2, pu3, pz0, pz1, pz2, pz3, pz4, pz5, pz6, pz7, pz8, Nat.reduceAdd, Nat.reduceBEq, ↓reduceIte, Act.put]
    simp only [h27, h26]
    rw [if_pos (by rfl)]
    go_simp
    refine (c_rd (M := na) ((RdD.wide (M' := na) ((unhide Ra).up hU) (by omega))) (by omega)).mono ?_
    rintro e w2 ⟨v2, rfl, n2, u2⟩
    exact hK _ _ u2 n2
  · intro x w1 K hU hS hO hd hK
    have h28 : NumD (Xa) (na) w1 (x 28).lo (x 28).hi (x 28).v := kval (hd 28 (by decide)).1 rfl
    have h26 : (x 26).v = .bool true := kval (hd 26 (by decide)).1 rfl
    clear hd
    refine ⟨?_⟩; simp only [kgoal, putsFrom, depsOf, pu0, pu1, pu2, pu3, pz0, pz1, pz2, pz3, pz4, pz5, pz6, pz7, pz8, Nat.reduceAdd, Nat.reduceBEq, ↓reduceIte, Act.put]
    simp only [h26]
    rw [if_pos (by rfl)]
    go_simp
    refine (neg_rd (M := na) (h28.rd (by omega)) (by omega)).mono ?_
    rintro e w2 ⟨v2, rfl, n2, u2⟩
    exact hK _ _ u2 n2
  · intro x w1 K hU hS hO hd hK
    have h26 : (x 26).v = .bool true := kval (hd 26 (by decide)).1 rfl
    obtain ⟨k0, k1, -⟩ := cells2 ((B3.tr (Up.tr (up_drew _) (hS.upb rfl))).blk (unhide K2).1)
    clear hd
    refine ⟨?_⟩; simp only [kgoal, putsFrom, depsOf, pu0, pu1, pu2, pu3, pz0, pz1, pz2, pz3, pz4, pz5, pz6, pz7, pz8, Nat.reduceAdd, Nat.reduceBEq, ↓reduceIte, Act.put]
    simp only [h26]
    rw [if_pos (by rfl)]
    go_simp
    exact hK _ _ (Up.refl _) rfl
  · intro x w1 K hU hS hO hd hK
    have h30 : (x 30).v = .agg #[.bool ba, .slice aoa na capa] := kval (hd 30 (by decide)).1 rfl
    have h26 : (x 26).v = .bool true := kval (hd 26 (by decide)).1 rfl
    clear hd
    refine ⟨?_⟩; simp only [kgoal, putsFrom, depsOf, pu0, pu1, pu2, pu3, pz0, pz1, pz2, pz3, pz4, pz5, pz6, pz7, pz8, Nat.reduceAdd, Nat.reduceBEq, ↓reduceIte, Act.put]
    simp only [h30, h26]
    rw [if_pos (by rfl)]
    go_simp
    refine (r2neg_rd (M := na) ((RdD.wide (M' := na) ((unhide Ra).up hU) (by omega))) (by omega)).mono ?_
    rintro e w2 ⟨v2, rfl, n2, u2⟩
    exact hK _ _ u2 n2
  · intro x w1 K hU hS hO hd hK
    have h29 : NumIn (-(Xa)) (na) w1 (x 29).lo (x 29).hi (x 29).v := kval (hd 29 (by decide)).1 rfl
    have h31 : NumIn (-(Xa)) (na) w1 (x 31).lo (x 31).hi (x 31).v := kval (hd 31 (by decide)).1 rfl
    have h26 : (x 26).v = .bool true := kval (hd 26 (by decide)).1 rfl
    clear hd
    refine ⟨?_⟩; simp only [kgoal, putsFrom, depsOf, pu0, pu1, pu2, pu3, pz0, pz1, pz2, pz3, pz4, pz5, pz6, pz7, pz8, Nat.reduceAdd, Nat.reduceBEq, ↓reduceIte, Act.put]
    simp only [h26]
    rw [if_pos (by rfl)]
    go_simp
    refine (same_rd h29.rc h31.rc (rfl)).mono ?_
    rintro e w2 ⟨v2, rfl, n2, u2⟩
    exact hK _ _ u2 n2
  · intro x w1 K hU hS hO hd hK
    have h26 : (x 26).v = .bool true := kval (hd 26 (by decide)).1 rfl
    have h32 : (x 32).v = .bool true := kval (hd 32 (by decide)).1 rfl
    clear hd
    refine ⟨?_⟩; simp only [kgoal, putsFrom, depsOf, pu0, pu1, pu2, pu3, pz0, pz1, pz2, pz3, pz4, pz5, pz6, pz7, pz8, Nat.reduceAdd, Nat.reduceBEq, ↓reduceIte, Act.put]
    simp only [h26, h32]
    go_simp
    exact hK _ _ (Up.refl _) rfl
  · intro x w1 K hU hS hO hd hK
    have h33 : (x 33).v = .bool true := kval (hd 33 (by decide)).1 rfl
    clear hd
    refine ⟨?_⟩; simp only [kgoal, putsFrom, depsOf, pu0, pu1, pu2, pu3, pz0, pz1, pz2, pz3, pz4, pz5, pz6, pz7, pz8, Nat.reduceAdd, Nat.reduceBEq, ↓reduceIte, Act.put]
    simp only [h33]
    go_simp
    exact hK _ _ (Up.refl _) rfl
  · intro x w1 K hU hS hO hd hK
    have h34 : (x 34).v = .bool true := kval (hd 34 (by decide)).1 rfl
    obtain ⟨k0, k1, -⟩ := cells2 ((B3.tr (Up.tr (up_drew _) (hS.upb rfl))).blk (unhide K2).1)
    clear hd
    refine ⟨?_⟩; simp only [kgoal, putsFrom, depsOf, pu0, pu1, pu2, pu3, pz0, pz1, pz2, pz3, pz4, pz5, pz6, pz7, pz8, Nat.reduceAdd, Nat.reduceBEq, ↓reduceIte, Act.put]
    simp only [h34]
    rw [if_pos (by rfl)]
    go_simp
    exact hK _ _ (Up.refl _) rfl
  · intro x w1 K hU hS hO hd hK
    have h35 : (x 35).v = .agg #[.bool ba, .slice aoa na capa] := kval (hd 35 (by decide)).1 rfl
    have h34 : (x 34).v = .bool true := kval (hd 34 (by decide)).1 rfl
    clear hd
    refine ⟨?_⟩; simp only [kgoal, putsFrom, depsOf, pu0, pu1, pu2, pu3, pz0, pz1, pz2, pz3, pz4, pz5, pz6, pz7, pz8, Nat.reduceAdd, Nat.reduceBEq, ↓reduceIte, Act.put]
    simp only [h35, h34]
    rw [if_pos (by rfl)]
    go_simp
    refine (c_rd (M := na) ((RdD.wide (M' := na) ((unhide Ra).up hU) (by omega))) (by omega)).mono ?_
    rintro e w2 ⟨v2, rfl, n2, u2⟩
    exact hK _ _ u2 n2
  · intro x w1 K hU hS hO hd hK
    have h34 : (x 34).v = .bool true := kval (hd 34 (by decide)).1 rfl
    obtain ⟨k0, k1, -⟩ := cells2 ((B3.tr (Up.tr (up_drew _) (hS.upb rfl))).blk (unhide K2).2)
    clear hd
    refine ⟨?_⟩; simp only [kgoal, putsFrom, depsOf, pu0, pu1, pu2, pu3, pz0, pz1, pz2, pz3, pz4, pz5, pz6, pz7, pz8, Nat.reduceAdd, Nat.reduceBEq, ↓reduceIte, Act.put]
    simp only [h34]
    rw [if_pos (by rfl)]
    go_simp
    exact hK _ _ (Up.refl _) rfl
  · intro x w1 K hU hS hO hd hK
    have h37 : (x 37).v = .agg #[.bool bb, .slice aob nb capb] := kval (hd 37 (by decide)).1 rfl
    have h34 : (x 34).v = .bool true := kval (hd 34 (by decide)).1 rfl
    clear hd
    refine ⟨?_⟩; simp only [kgoal, putsFrom, depsOf, pu0, pu1, pu2, pu3, pz0, pz1, pz2, pz3, pz4, pz5, pz6, pz7, pz8, Nat.reduceAdd, Nat.reduceBEq, ↓reduceIte, Act.put]
    simp only [h37, h34]
    rw [if_pos (by rfl)]
    go_simp
    refine (c_rd (M := nb) ((RdD.wide (M' := nb) ((unhide Rb).up hU) (by omega))) (by omega)).mono ?_
    rintro e w2 ⟨v2, rfl, n2, u2⟩
    exact hK _ _ u2 n2
  · intro x w1 K hU hS hO hd hK
    have h36 : NumD (Xa) (na) w1 (x 36).lo (x 36).hi (x 36).v := kval (hd 36 (by decide)).1 rfl
    have h38 : NumD (Xb) (nb) w1 (x 38).lo (x 38).hi (x 38).v := kval (hd 38 (by decide)).1 rfl
    have h34 : (x 34).v = .bool true := kval (hd 34 (by decide)).1 rfl
    clear hd
    refine ⟨?_⟩; simp only [kgoal, putsFrom, depsOf, pu0, pu1, pu2, pu3, pz0, pz1, pz2, pz3, pz4, pz5, pz6, pz7, pz8, Nat.reduceAdd, Nat.reduceBEq, ↓reduceIte, Act.put]
    simp only [h34]
    rw [if_pos (by rfl)]
    go_simp
    refine (cmp_rd (M := 1048576) (h36.rd (by omega)) (h38.rd (by omega))).mono ?_
    rintro e w2 ⟨v2, rfl, n2, u2⟩
    exact hK _ _ u2 n2
  · intro x w1 K hU hS hO hd hK
    have h34 : (x 34).v = .bool true := kval (hd 34 (by decide)).1 rfl
    obtain ⟨k0, k1, -⟩ := cells2 ((B3.tr (Up.tr (up_drew _) (hS.upb rfl))).blk (unhide K2).1)
    clear hd
    refine ⟨?_⟩; simp only [kgoal, putsFrom, depsOf, pu0, pu1, pu2, pu3, pz0, pz1, pz2, pz3, pz4, pz5, pz6, pz7, pz8, Nat.reduceAdd, Nat.reduceBEq, ↓reduceIte, Act.put]
    simp only [h34]
    rw [if_pos (by rfl)]
    go_simp
    exact hK _ _ (Up.refl _) rfl
  · intro x w1 K hU hS hO hd hK
    have h34 : (x 34).v = .bool true := kval (hd 34 (by decide)).1 rfl
    obtain ⟨k0, k1, -⟩ := cells2 ((B3.tr (Up.tr (up_drew _) (hS.upb rfl))).blk (unhide K2).2)
    clear hd
    refine ⟨?_⟩; simp only [kgoal, putsFrom, depsOf, pu0, pu1, pu2, pu3, pz0, pz1, pz2, pz3, pz4, pz5, pz6, pz7, pz8, Nat.reduceAdd, Nat.reduceBEq, ↓reduceIte, Act.put]
    simp only [h34]
    rw [if_pos (by rfl)]
    go_simp
    exact hK _ _ (Up.refl _) rfl
  · intro x w1 K hU hS hO hd hK
    have h40 : (x 40).v = .agg #[.bool ba, .slice aoa na capa] := kval (hd 40 (by decide)).1 rfl
    have h41 : (x 41).v = .agg #[.bool bb, .slice aob nb capb] := kval (hd 41 (by decide)).1 rfl
    have h34 : (x 34).v = .bool true := kval (hd 34 (by decide)).1 rfl
    clear hd
    refine ⟨?_⟩; simp only [kgoal, putsFrom, depsOf, pu0, pu1, pu2, pu3, pz0, pz1, pz2, pz3, pz4, pz5, pz6, pz7, pz8, Nat.reduceAdd, Nat.reduceBEq, ↓reduceIte, Act.put]
    simp only [h40, h41, h34]
    rw [if_pos (by rfl)]
    go_simp
    refine (r2cmp_rd (M := 1048576) ((RdD.wide (M' := 1048576) ((unhide Ra).up hU) (by omega))) ((RdD.wide (M' := 1048576) ((unhide Rb).up hU) (by omega))) (by omega)).mono ?_
    rintro e w2 ⟨v2, rfl, n2, u2⟩
    exact hK _ _ u2 n2
  · intro x w1 K hU hS hO hd hK
    have h39 : (x 39).v = .int .i64 (cmpZ (Xa) (Xb)) := kval (hd 39 (by decide)).1 rfl
    have h42 : (x 42).v = .int .i64 (cmpZ (Xa) (Xb)) := kval (hd 42 (by decide)).1 rfl
    have h34 : (x 34).v = .bool true := kval (hd 34 (by decide)).1 rfl
    clear hd
    refine ⟨?_⟩; simp only [kgoal, putsFrom, depsOf, pu0, pu1, pu2, pu3, pz0, pz1, pz2, pz3, pz4, pz5, pz6, pz7, pz8, Nat.reduceAdd, Nat.reduceBEq, ↓reduceIte, Act.put]
    simp only [h39, h42, h34]
    rw [if_pos (by rfl)]
    go_simp
    exact hK _ _ (Up.refl _) rfl
  · intro x w1 K hU hS hO hd hK
    have h34 : (x 34).v = .bool true := kval (hd 34 (by decide)).1 rfl
    have h43 : (x 43).v = .bool true := kval (hd 43 (by decide)).1 rfl
    clear hd
    refine ⟨?_⟩; simp only [kgoal, putsFrom, depsOf, pu0, pu1, pu2, pu3, pz0, pz1, pz2, pz3, pz4, pz5, pz6, pz7, pz8, Nat.reduceAdd, Nat.reduceBEq, ↓reduceIte, Act.put]
    simp only [h34, h43]
    go_simp
    exact hK _ _ (Up.refl _) rfl
  · intro x w1 K hU hS hO hd hK
    have h44 : (x 44).v = .bool true := kval (hd 44 (by decide)).1 rfl
    clear hd
    refine ⟨?_⟩; simp only [kgoal, putsFrom, depsOf, pu0, pu1, pu2, pu3, pz0, pz1, pz2, pz3, pz4, pz5, pz6, pz7, pz8, Nat.reduceAdd, Nat.reduceBEq, ↓reduceIte, Act.put]
    simp only [h44]
    go_simp
    exact hK _ _ (Up.refl _) rfl
  · intro x w1 K hU hS hO hd hK
    have h45 : (x 45).v = .bool true := kval (hd 45 (by decide)).1 rfl
    clear hd
    refine ⟨?_⟩; simp only [kgoal, putsFrom, depsOf, pu0, pu1, pu2, pu3, pz0, pz1, pz2, pz3, pz4, pz5, pz6, pz7, pz8, Nat.reduceAdd, Nat.reduceBEq, ↓reduceIte, Act.put]
    simp only [h45]
    rw [if_pos (by rfl)]
    go_simp
    refine (awake_rd ((unhide HT).up hU)).mono ?_
    rintro e w2 ⟨v2, rfl, n2, u2⟩
    exact hK _ _ u2 n2
  · intro x w1 K hU hS hO hd hK
    have h45 : (x 45).v = .bool true := kval (hd 45 (by decide)).1 rfl
    have h46 : (x 46).v = .bool true := kval (hd 46 (by decide)).1 rfl
    clear hd
    refine ⟨?_⟩; simp only [kgoal, putsFrom, depsOf, pu0, pu1, pu2, pu3, pz0, pz1, pz2, pz3, pz4, pz5, pz6, pz7, pz8, Nat.reduceAdd, Nat.reduceBEq, ↓reduceIte, Act.put]
    simp only [h45, h46]
    go_simp
    exact hK _ _ (Up.refl _) rfl
  · intro x w1 K hU hS hO hd hK
    have h47 : (x 47).v = .bool true := kval (hd 47 (by decide)).1 rfl
    clear hd
    refine ⟨?_⟩; simp only [kgoal, putsFrom, depsOf, pu0, pu1, pu2, pu3, pz0, pz1, pz2, pz3, pz4, pz5, pz6, pz7, pz8, Nat.reduceAdd, Nat.reduceBEq, ↓reduceIte, Act.put]
    simp only [h47]
    go_simp
    exact hK _ _ (Up.refl _) rfl
  intro x w1 hU hS hR hlo hdis
  have hf : (x 48).v = .bool true := kval (hR 48 (by decide)) rfl
  clear hR hlo hdis
  refine ⟨?_⟩; simp only [kgoal, putsFrom, depsOf, pu0, pu1, pu2, pu3, pz0, pz1, pz2, pz3, pz4, pz5, pz6, pz7, pz8, Nat.reduceAdd, Nat.reduceBEq, ↓reduceIte, Act.put]
  rw [hf]
  go_wp2_with fail
  go_ret
  exact ⟨rfl, hU⟩

end Go.Proofs.YtdiacbfdfoeemaaDoor
