/-
  What is proved here: tandemlaw02.NumMakes answers true for all numbers.
-/
import Derived.Test.YtkmpobmpencefaaDoorNCon
namespace Go.Proofs.YtkmpobmpencefaaDoor
open Go Go.RowKit

/-! Short names, for the text's length. -/
theorem pz0 (b : Bool) : (b || false) = b := Bool.or_false b
theorem pz1 (b : Bool) : (false || b) = b := Bool.false_or b
theorem pz2 (b : Bool) : (b || true) = true := Bool.or_true b
theorem pz3 (b : Bool) : (true || b) = true := Bool.true_or b
theorem pz4 : (false = true) = False := by simp
theorem pz5 (n : Nat) : 0 + n = n := Nat.zero_add n
theorem pz6 {α : Type} {l : List α} {i : Nat} {a : α} : l.toArray.setIfInBounds i a = (l.set i a).toArray := List.setIfInBounds_toArray ..
theorem pz7 {α : Type} {x : α} {xs : List α} {a : α} : (x :: xs).set 0 a = a :: xs := rfl
theorem pz8 {α : Type} {x : α} {xs : List α} {i : Nat} {a : α} : (x :: xs).set (i + 1) a = x :: xs.set i a := rfl
theorem RdD.mono {X : Int} {M M' : Nat} {w : World} {a : Value} (h : RdD X M w a) (hM : M ≤ M') : RdD X M' w a := by
  obtain ⟨b, n, f, c, d, l, s⟩ := h
  exact ⟨b, n, f, c, d, by omega, s⟩
theorem makes_eq (X Y : Int) (h : Y ≠ 0) : cmpZ ((Int.tdiv X Y) * Y + (rz X Y)) X = 0 ∧ cmpZ ((Int.fdiv X Y) * Y + (if Y = 0 then 0 else Int.fmod X Y)) X = 0 := by
  have h1 := Int.mul_tdiv_add_tmod X Y
  have h2 := Int.mul_fdiv_add_fmod X Y
  rw [Int.mul_comm] at h1 h2
  unfold rz
  rw [if_neg h, if_neg h, h1, h2]
  exact ⟨by simp [cmpZ], by simp [cmpZ]⟩
theorem fmod_pos {X Y : Int} (h : 0 < Y) : 0 ≤ Int.fmod X Y ∧ Int.fmod X Y < Y := by
  rw [Int.fmod_eq_emod_of_nonneg X (by omega)]
  exact ⟨Int.emod_nonneg X (by omega), Int.emod_lt_of_pos X h⟩
theorem fmod_neg {X Y : Int} (h : Y < 0) : Y < Int.fmod X Y ∧ Int.fmod X Y ≤ 0 := by
  have h1 := Int.emod_nonneg (-X) (show -Y ≠ 0 by omega)
  have h2 := Int.emod_lt_of_pos (-X) (show 0 < -Y by omega)
  have h3 := Int.mul_ediv_add_emod (-X) (-Y)
  have := (fdiv_uniq (X := X) (Y := Y) (q := (-X) / (-Y)) (r := -((-X) % (-Y))) (by rw [Int.neg_mul] at h3; omega) (.inr ⟨h, by omega, by omega⟩)).2
  rw [this]
  omega
theorem tmod_sign {X Y : Int} : (0 ≤ X → 0 ≤ Int.tmod X Y) ∧ (X ≤ 0 → Int.tmod X Y ≤ 0) := by
  refine ⟨fun h => Int.tmod_nonneg Y h, fun h => ?_⟩
  have := Int.tmod_nonneg Y (show 0 ≤ -X by omega)
  rw [Int.neg_tmod] at this
  omega
theorem makes_smallP (X Y : Int) (h : 0 < Y) : cmpZ (rz X Y) Y = -1 ∧ cmpZ (-(rz X Y)) Y = -1 ∧ cmpZ (if Y = 0 then 0 else Int.fmod X Y) Y = -1 ∧ cmpZ (-(if Y = 0 then 0 else Int.fmod X Y)) Y = -1 := by
  have h1 := tmod_small (X := X) (Y := Y) (by omega)
  have h2 := fmod_pos (X := X) h
  unfold rz
  rw [if_neg (by omega), if_neg (by omega)]
  exact ⟨cmpZ_lt (by omega), cmpZ_lt (by omega), cmpZ_lt (by omega), cmpZ_lt (by omega)⟩
theorem makes_smallN (X Y : Int) (h : Y < 0) : cmpZ (rz X Y) (-(Y)) = -1 ∧ cmpZ (-(rz X Y)) (-(Y)) = -1 ∧ cmpZ (if Y = 0 then 0 else Int.fmod X Y) (-(Y)) = -1 ∧ cmpZ (-(if Y = 0 then 0 else Int.fmod X Y)) (-(Y)) = -1 := by
  have h1 := tmod_small (X := X) (Y := Y) (by omega)
  have h2 := fmod_neg (X := X) h
  unfold rz
  rw [if_neg (by omega), if_neg (by omega)]
  exact ⟨cmpZ_lt (by omega), cmpZ_lt (by omega), cmpZ_lt (by omega), cmpZ_lt (by omega)⟩
theorem signs3 {X R : Int} {p : Prop} (h : (0 ≤ X → 0 ≤ R) ∧ (X ≤ 0 → R ≤ 0)) (hp : p) : (cmpZ R 0 = 0 ∧ p) ∨ ∃ s, (s == 0) = false ∧ decide (s = 0) = false ∧ cmpZ R 0 = s ∧ cmpZ X 0 = s ∧ p := by
  rcases Int.lt_trichotomy R 0 with h1 | h1 | h1
  · exact .inr ⟨-1, rfl, rfl, cmpZ_lt h1, cmpZ_lt (by omega), hp⟩
  · exact .inl ⟨by rw [h1]; rfl, hp⟩
  · exact .inr ⟨1, rfl, rfl, cmpZ_gt h1, cmpZ_gt (by omega), hp⟩
theorem makes_signsP (X Y : Int) (h : 0 < Y) : (cmpZ (rz X Y) 0 = 0 ∧ (cmpZ (if Y = 0 then 0 else Int.fmod X Y) 0 = 0 ∨ cmpZ (if Y = 0 then 0 else Int.fmod X Y) 0 = 1)) ∨ ∃ s, (s == 0) = false ∧ decide (s = 0) = false ∧ cmpZ (rz X Y) 0 = s ∧ cmpZ X 0 = s ∧ (cmpZ (if Y = 0 then 0 else Int.fmod X Y) 0 = 0 ∨ cmpZ (if Y = 0 then 0 else Int.fmod X Y) 0 = 1) := by
  refine signs3 (by unfold rz; rw [if_neg (by omega)]; exact tmod_sign) ?_
  have := (fmod_pos (X := X) h).1
  rw [if_neg (by omega)]
  rcases Int.lt_or_eq_of_le this with h1 | h1
  · exact .inr (cmpZ_gt h1)
  · exact .inl (by rw [← h1]; rfl)
theorem makes_signsN (X Y : Int) (h : Y < 0) : (cmpZ (rz X Y) 0 = 0 ∧ (cmpZ (if Y = 0 then 0 else Int.fmod X Y) 0 = 0 ∨ cmpZ (if Y = 0 then 0 else Int.fmod X Y) 0 = -1)) ∨ ∃ s, (s == 0) = false ∧ decide (s = 0) = false ∧ cmpZ (rz X Y) 0 = s ∧ cmpZ X 0 = s ∧ (cmpZ (if Y = 0 then 0 else Int.fmod X Y) 0 = 0 ∨ cmpZ (if Y = 0 then 0 else Int.fmod X Y) 0 = -1) := by
  refine signs3 (by unfold rz; rw [if_neg (by omega)]; exact tmod_sign) ?_
  have := (fmod_neg (X := X) h).2
  rw [if_neg (by omega)]
  rcases Int.lt_or_eq_of_le this with h1 | h1
  · exact .inr (cmpZ_lt h1)
  · exact .inl (by rw [h1]; rfl)

set_option linter.unusedSimpArgs false in
set_option maxRecDepth 60000 in
set_option maxHeartbeats 4000000 in
theorem makes_walk (aa : Value) (ba : Bool) (na : Nat) (fa : Nat → Nat) (ab : Value) (bb : Bool) (nb : Nat) (fb : Nat → Nat) (w : World) (haa : Nm w aa ba na fa) (hab : Nm w ab bb nb fb) (hfa : ∀ i, i < na → fa i < 4294967296) (hfb : ∀ i, i < nb → fb i < 4294967296) (hna : na ≤ 35184372087808) (hnb : nb ≤ 35184372087808) (htab : Tab w) :
    Calls Tryd.prog 10 #[aa, ab] w fun e w' => e = .returned (.bool true) ∧ Up w w' := by
  obtain ⟨va, rfl, hva⟩ := haa
  obtain ⟨aoa, capa, rfl, -⟩ := id hva
  obtain ⟨Xa, hXa⟩ : ∃ X, sgn ba (num 4294967296 fa na) = X := ⟨_, rfl⟩
  have Ra := hide (show RdD Xa na w (.agg #[.bool ba, .slice aoa na capa]) from ⟨ba, na, fa, ⟨_, rfl, hva⟩, hfa, Nat.le_refl _, hXa⟩)
  obtain ⟨vb, rfl, hvb⟩ := hab
  obtain ⟨aob, capb, rfl, -⟩ := id hvb
  obtain ⟨Xb, hXb⟩ : ∃ X, sgn bb (num 4294967296 fb nb) = X := ⟨_, rfl⟩
  have Rb := hide (show RdD Xb nb w (.agg #[.bool bb, .slice aob nb capb]) from ⟨bb, nb, fb, ⟨_, rfl, hvb⟩, hfb, Nat.le_refl _, hXb⟩)
  have HT := hide htab
  clear htab hva hfa hXa hvb hfb hXb
  have K3 := hide (two_blocks w (.cells #[.bool ba, .slice aoa na capa] 26) (.cells #[.bool bb, .slice aob nb capb] 26))
  have U0 := (up_alloc w (.cells #[.bool ba, .slice aoa na capa] 26)).tr (up_alloc _ (.cells #[.bool bb, .slice aob nb capb] 26))
  obtain ⟨ok, hok⟩ : ∃ ok, ok = decide (Xb ≠ 0) := ⟨_, rfl⟩
  have HOK := hide hok
  clear hok
  go_enter Tryd.func10, Tryd.ntmps10
  go_wp2_with fail
  refine wp_region_knd (by kernel_rfl) w U0 [[], [0], [], [2], [1, 3], [4], [5, 4], [5, 4], [5, 4], [], [], [9, 6, 5, 4], [10, 7, 5, 4], [8]] [.val [] (fun _ g _ => g.v = .agg #[.bool ba, .slice aoa na capa]), .val [] (fun w g _ => NumD (Xa) (na) w g.lo g.hi g.v), .val [] (fun _ g _ => g.v = .agg #[.bool bb, .slice aob nb capb]), .val [] (fun w g _ => NumD (Xb) (nb) w g.lo g.hi g.v), .val [] (fun w g _ => DivsIn (Int.tdiv Xa Xb) (rz Xa Xb) ok (35184372087808 + 1) w g.lo g.hi g.v), .val [4] (fun _ g vs => vs = [g.v]), .val [5] (fun _ g vs => ∃ b1 b2, vs = [.tuple #[g.v, b1, b2]]), .val [5] (fun _ g vs => ∃ b0 b2, vs = [.tuple #[b0, g.v, b2]]), .val [5] (fun _ g vs => ∃ b0 b1, vs = [.tuple #[b0, b1, g.v]]), .box 26 2, .box 26 2, .sto 9 6 26 2, .sto 10 7 26 2, .val [8] (fun _ g vs => vs = [g.v])] (by kernel_rfl) (by kernel_rfl) rfl ⟨trivial, trivial, trivial, trivial, trivial, trivial, trivial, trivial, trivial, trivial, trivial, trivial, trivial, trivial, trivial⟩ ⟨fun _ _ _ _ _ h => h, fun _ _ _ _ hb h => h.keep hb, fun _ _ _ _ _ h => h, fun _ _ _ _ hb h => h.keep hb, fun _ _ _ _ hb h => h.keep hb, fun _ _ _ _ _ h => h, fun _ _ _ _ _ h => h, fun _ _ _ _ _ h => h, fun _ _ _ _ _ h => h, trivial, trivial, trivial, trivial, fun _ _ _ _ _ h => h, trivial⟩ ⟨?_, ?_, ?_, ?_, ?_, ?_, ?_, ?_, ?_, ?_, ?_, ?_, ?_, ?_, trivial⟩ ?_
  · intro x w1 K hU hS hO hd hK
    obtain ⟨k0, k1, -⟩ := cells2 ((Up.tr (up_drew _) (hS.upb rfl)).blk (unhide K3).1)
    clear hd
    refine ⟨?_⟩; simp only [kgoal, putsFrom, depsOf, pu0, pu1, pu2, pu3, pz0, pz1, pz2, pz3, pz4, pz5, pz6, pz7, pz8, Nat.reduceAdd, Nat.reduceBEq, ↓reduceIte, Act.put]
    go_simp
    exact hK _ _ (Up.refl _) rfl
  · intro x w1 K hU hS hO hd hK
    have h0 : (x 0).v = .agg #[.bool ba, .slice aoa na capa] := kval (hd 0 (by decide)).1 rfl
    clear hd
    refine ⟨?_⟩; simp only [kgoal, putsFrom, depsOf, pu0, pu1, pu2, pu3, pz0, pz1, pz2, pz3, pz4, pz5, pz6, pz7, pz8, Nat.reduceAdd, Nat.reduceBEq, ↓reduceIte, Act.put]
    simp only [h0]
    go_simp
    refine (c_rd (M := na) (((unhide Ra).up hU)) (by omega)).mono ?_
    rintro e w2 ⟨v2, rfl, n2, u2⟩
    exact hK _ _ u2 n2
  · intro x w1 K hU hS hO hd hK
    obtain ⟨k0, k1, -⟩ := cells2 ((Up.tr (up_drew _) (hS.upb rfl)).blk (unhide K3).2)
    clear hd
    refine ⟨?_⟩; simp only [kgoal, putsFrom, depsOf, pu0, pu1, pu2, pu3, pz0, pz1, pz2, pz3, pz4, pz5, pz6, pz7, pz8, Nat.reduceAdd, Nat.reduceBEq, ↓reduceIte, Act.put]
    go_simp
    exact hK _ _ (Up.refl _) rfl
  · intro x w1 K hU hS hO hd hK
    have h2 : (x 2).v = .agg #[.bool bb, .slice aob nb capb] := kval (hd 2 (by decide)).1 rfl
    clear hd
    refine ⟨?_⟩; simp only [kgoal, putsFrom, depsOf, pu0, pu1, pu2, pu3, pz0, pz1, pz2, pz3, pz4, pz5, pz6, pz7, pz8, Nat.reduceAdd, Nat.reduceBEq, ↓reduceIte, Act.put]
    simp only [h2]
    go_simp
    refine (c_rd (M := nb) (((unhide Rb).up hU)) (by omega)).mono ?_
    rintro e w2 ⟨v2, rfl, n2, u2⟩
    exact hK _ _ u2 n2
  · intro x w1 K hU hS hO hd hK
    have h1 : NumD (Xa) (na) w1 (x 1).lo (x 1).hi (x 1).v := kval (hd 1 (by decide)).1 rfl
    have h3 : NumD (Xb) (nb) w1 (x 3).lo (x 3).hi (x 3).v := kval (hd 3 (by decide)).1 rfl
    clear hd
    refine ⟨?_⟩; simp only [kgoal, putsFrom, depsOf, pu0, pu1, pu2, pu3, pz0, pz1, pz2, pz3, pz4, pz5, pz6, pz7, pz8, Nat.reduceAdd, Nat.reduceBEq, ↓reduceIte, Act.put]
    go_simp
    refine (trunc_rd (M := 35184372087808) (h1.rd (by omega)) (h3.rd (by omega)) (by omega)).mono ?_
    rintro e w2 ⟨v2, rfl, n2, u2⟩
    rw [← unhide HOK] at n2
    exact hK _ _ u2 n2
  · intro x w1 K hU hS hO hd hK
    refine ⟨?_⟩; simp only [kgoal, putsFrom, depsOf, pu0, pu1, pu2, pu3, pz0, pz1, pz2, pz3, pz4, pz5, pz6, pz7, pz8, Nat.reduceAdd, Nat.reduceBEq, ↓reduceIte, Act.put]
    go_simp
    exact hK _ _ (Up.refl _) rfl
  · intro x w1 K hU hS hO hd hK
    have h4 : DivsIn (Int.tdiv Xa Xb) (rz Xa Xb) ok (35184372087808 + 1) w1 (x 4).lo (x 4).hi (x 4).v := kval (hd 4 (by decide)).1 rfl
    obtain ⟨aq, ar, e0, nq, nr⟩ := h4
    have e1 : [(x 4).v] = [(x 5).v] := kval (hd 5 (by decide)).1 rfl
    have ej : (x 5).v = _ := (List.cons.inj e1).1.symm.trans e0
    obtain ⟨p1, p2, p3, p4, rfl⟩ := (nq.rd (Nat.le_refl _)).agg
    obtain ⟨p5, p6, p7, p8, rfl⟩ := (nr.rd (Nat.le_refl _)).agg
    clear nq nr
    clear hd
    refine ⟨?_⟩; simp only [kgoal, putsFrom, depsOf, pu0, pu1, pu2, pu3, pz0, pz1, pz2, pz3, pz4, pz5, pz6, pz7, pz8, Nat.reduceAdd, Nat.reduceBEq, ↓reduceIte, Act.put]
    go_simp
    exact hK _ _ (Up.refl _) ⟨_, _,  by show [(x 5).v] = _; rw [ej]; rfl⟩
  · intro x w1 K hU hS hO hd hK
    have h4 : DivsIn (Int.tdiv Xa Xb) (rz Xa Xb) ok (35184372087808 + 1) w1 (x 4).lo (x 4).hi (x 4).v := kval (hd 4 (by decide)).1 rfl
    obtain ⟨aq, ar, e0, nq, nr⟩ := h4
    have e1 : [(x 4).v] = [(x 5).v] := kval (hd 5 (by decide)).1 rfl
    have ej : (x 5).v = _ := (List.cons.inj e1).1.symm.trans e0
    obtain ⟨p1, p2, p3, p4, rfl⟩ := (nq.rd (Nat.le_refl _)).agg
    obtain ⟨p5, p6, p7, p8, rfl⟩ := (nr.rd (Nat.le_refl _)).agg
    clear nq nr
    clear hd
    refine ⟨?_⟩; simp only [kgoal, putsFrom, depsOf, pu0, pu1, pu2, pu3, pz0, pz1, pz2, pz3, pz4, pz5, pz6, pz7, pz8, Nat.reduceAdd, Nat.reduceBEq, ↓reduceIte, Act.put]
    go_simp
    exact hK _ _ (Up.refl _) ⟨_, _,  by show [(x 5).v] = _; rw [ej]; rfl⟩
  · intro x w1 K hU hS hO hd hK
    have h4 : DivsIn (Int.tdiv Xa Xb) (rz Xa Xb) ok (35184372087808 + 1) w1 (x 4).lo (x 4).hi (x 4).v := kval (hd 4 (by decide)).1 rfl
    obtain ⟨aq, ar, e0, nq, nr⟩ := h4
    have e1 : [(x 4).v] = [(x 5).v] := kval (hd 5 (by decide)).1 rfl
    have ej : (x 5).v = _ := (List.cons.inj e1).1.symm.trans e0
    obtain ⟨p1, p2, p3, p4, rfl⟩ := (nq.rd (Nat.le_refl _)).agg
    obtain ⟨p5, p6, p7, p8, rfl⟩ := (nr.rd (Nat.le_refl _)).agg
    clear nq nr
    clear hd
    refine ⟨?_⟩; simp only [kgoal, putsFrom, depsOf, pu0, pu1, pu2, pu3, pz0, pz1, pz2, pz3, pz4, pz5, pz6, pz7, pz8, Nat.reduceAdd, Nat.reduceBEq, ↓reduceIte, Act.put]
    go_simp
    exact hK _ _ (Up.refl _) ⟨_, _,  by show [(x 5).v] = _; rw [ej]; rfl⟩
  · intro x w1 K hU hS hO hd hK
    refine ⟨?_⟩; simp only [kgoal, putsFrom, depsOf, pu0, pu1, pu2, pu3, pz0, pz1, pz2, pz3, pz4, pz5, pz6, pz7, pz8, Nat.reduceAdd, Nat.reduceBEq, ↓reduceIte, Act.put]
    go_simp
    exact hK _ _ (up_alloc _ _) (box_new rfl hS)
  · intro x w1 K hU hS hO hd hK
    refine ⟨?_⟩; simp only [kgoal, putsFrom, depsOf, pu0, pu1, pu2, pu3, pz0, pz1, pz2, pz3, pz4, pz5, pz6, pz7, pz8, Nat.reduceAdd, Nat.reduceBEq, ↓reduceIte, Act.put]
    go_simp
    exact hK _ _ (up_alloc _ _) (box_new rfl hS)
  · intro x w1 K hU hS hO hd hK
    obtain ⟨c0, c1, eb, hb⟩ := kbox2 (hd 9 (by decide)).1 rfl
    have h4 : DivsIn (Int.tdiv Xa Xb) (rz Xa Xb) ok (35184372087808 + 1) w1 (x 4).lo (x 4).hi (x 4).v := kval (hd 4 (by decide)).1 rfl
    obtain ⟨aq, ar, e0, nq, nr⟩ := h4
    have e1 : [(x 4).v] = [(x 5).v] := kval (hd 5 (by decide)).1 rfl
    have ej : (x 5).v = _ := (List.cons.inj e1).1.symm.trans e0
    have es : ∃ b1 b2, [(x 5).v] = [Value.tuple #[(x 6).v, b1, b2]] := kval (hd 6 (by decide)).1 rfl
    obtain ⟨b1, b2, es⟩ := es
    rw [ej] at es
    obtain ⟨p1, p2, p3, p4, ea⟩ := (nq.rd (Nat.le_refl _)).agg
    replace es := (tup3 (List.cons.inj es).1).1.symm
    rw [ea] at es
    clear nq nr e0 e1 ej ea
    obtain ⟨d0, d1, f0, f1, -⟩ := cells2 hb
    clear hd
    refine ⟨?_⟩; simp only [kgoal, putsFrom, depsOf, pu0, pu1, pu2, pu3, pz0, pz1, pz2, pz3, pz4, pz5, pz6, pz7, pz8, Nat.reduceAdd, Nat.reduceBEq, ↓reduceIte, Act.put]
    go_simp
    exact hK _ _ (sto_two hb _ _).1 ⟨_, rfl, es, (sto_two hb _ _).2⟩
  · intro x w1 K hU hS hO hd hK
    obtain ⟨c0, c1, eb, hb⟩ := kbox2 (hd 10 (by decide)).1 rfl
    have h4 : DivsIn (Int.tdiv Xa Xb) (rz Xa Xb) ok (35184372087808 + 1) w1 (x 4).lo (x 4).hi (x 4).v := kval (hd 4 (by decide)).1 rfl
    obtain ⟨aq, ar, e0, nq, nr⟩ := h4
    have e1 : [(x 4).v] = [(x 5).v] := kval (hd 5 (by decide)).1 rfl
    have ej : (x 5).v = _ := (List.cons.inj e1).1.symm.trans e0
    have es : ∃ b0 b2, [(x 5).v] = [Value.tuple #[b0, (x 7).v, b2]] := kval (hd 7 (by decide)).1 rfl
    obtain ⟨b0, b2, es⟩ := es
    rw [ej] at es
    obtain ⟨p1, p2, p3, p4, ea⟩ := (nr.rd (Nat.le_refl _)).agg
    replace es := (tup3 (List.cons.inj es).1).2.1.symm
    rw [ea] at es
    clear nq nr e0 e1 ej ea
    obtain ⟨d0, d1, f0, f1, -⟩ := cells2 hb
    clear hd
    refine ⟨?_⟩; simp only [kgoal, putsFrom, depsOf, pu0, pu1, pu2, pu3, pz0, pz1, pz2, pz3, pz4, pz5, pz6, pz7, pz8, Nat.reduceAdd, Nat.reduceBEq, ↓reduceIte, Act.put]
    go_simp
    exact hK _ _ (sto_two hb _ _).1 ⟨_, rfl, es, (sto_two hb _ _).2⟩
  · intro x w1 K hU hS hO hd hK
    refine ⟨?_⟩; simp only [kgoal, putsFrom, depsOf, pu0, pu1, pu2, pu3, pz0, pz1, pz2, pz3, pz4, pz5, pz6, pz7, pz8, Nat.reduceAdd, Nat.reduceBEq, ↓reduceIte, Act.put]
    go_simp
    exact hK _ _ (Up.refl _) rfl
  intro x w1 hU hS hR hlo hdis
  have hG := hS.upb rfl
  obtain ⟨eb1, lb1⟩ := kbox (hR 9 (by decide)) rfl
  obtain ⟨eb2, lb2⟩ := kbox (hR 10 (by decide)) rfl
  have hv : DivsIn (Int.tdiv Xa Xb) (rz Xa Xb) ok (35184372087808 + 1) w1 (x 4).lo (x 4).hi (x 4).v := kval (hR 4 (by decide)) rfl
  obtain ⟨aq, ar, e0, nq', nr'⟩ := hv
  have e1 : [(x 4).v] = [(x 5).v] := kval (hR 5 (by decide)) rfl
  have ej : (x 5).v = _ := (List.cons.inj e1).1.symm.trans e0
  have f0 : ∃ b c, [(x 5).v] = [Value.tuple #[(x 6).v, b, c]] := kval (hR 6 (by decide)) rfl
  obtain ⟨_, _, f0⟩ := f0
  have f1 : ∃ b c, [(x 5).v] = [Value.tuple #[b, (x 7).v, c]] := kval (hR 7 (by decide)) rfl
  obtain ⟨_, _, f1⟩ := f1
  have f2 : ∃ b c, [(x 5).v] = [Value.tuple #[b, c, (x 8).v]] := kval (hR 8 (by decide)) rfl
  obtain ⟨_, _, f2⟩ := f2
  have fa : [(x 8).v] = [(x 13).v] := kval (hR 13 (by decide)) rfl
  obtain ⟨cs1, -, q1, Tq⟩ := ksto (hR 11 (by decide)) rfl
  obtain ⟨cs2, -, q2, Tr⟩ := ksto (hR 12 (by decide)) rfl
  rw [ej] at f0 f1 f2
  replace f0 := (tup3 (List.cons.inj f0).1).1.symm
  replace f1 := (tup3 (List.cons.inj f1).1).2.1.symm
  replace f2 := (tup3 (List.cons.inj f2).1).2.2.symm
  have fa' : (x 13).v = .bool ok := by rw [← f2]; exact (List.cons.inj fa).1.symm
  obtain ⟨bq, aoq, nq, capq, eaq⟩ := (nq'.rd (Nat.le_refl _)).agg
  subst eaq
  rw [f0] at q1
  cases q1
  have Cq := hide nq'.rc
  obtain ⟨br, aor, nr, capr, ear⟩ := (nr'.rd (Nat.le_refl _)).agg
  subst ear
  rw [f1] at q2
  cases q2
  have Cr := hide nr'.rc
  refine ⟨?_⟩; simp only [kgoal, putsFrom, depsOf, pu0, pu1, pu2, pu3, pz0, pz1, pz2, pz3, pz4, pz5, pz6, pz7, pz8, Nat.reduceAdd, Nat.reduceBEq, ↓reduceIte, Act.put]
  rw [eb1, eb2, fa']
  generalize (x 0).v = y0q at *
  generalize (x 1).v = y1q at *
  generalize (x 2).v = y2q at *
  generalize (x 3).v = y3q at *
  generalize (x 4).v = y4q at *
  generalize (x 5).v = y5q at *
  generalize (x 6).v = y6q at *
  generalize (x 7).v = y7q at *
  generalize (x 8).v = y8q at *
  generalize (x 9).lo = gq at *
  generalize (x 10).lo = gr at *
  have B1 := Up.tr (up_drew _) hG
  have U1 := hU
  clear hR hlo hdis hS hG hU nq' nr' e0 e1 ej f0 f1 f2 fa fa' eb1 eb2
  go_wp2_with fail
  refine wp_region_knd (by kernel_rfl) w U1 [[], [0], [], [2], [1, 3], [4], [5, 4], [5, 4], [5, 4], [], [], [9, 6, 5, 4], [10, 7, 5, 4], [8]] [.val [] (fun _ g _ => g.v = .agg #[.bool ba, .slice aoa na capa]), .val [] (fun w g _ => NumD (Xa) (na) w g.lo g.hi g.v), .val [] (fun _ g _ => g.v = .agg #[.bool bb, .slice aob nb capb]), .val [] (fun w g _ => NumD (Xb) (nb) w g.lo g.hi g.v), .val [] (fun w g _ => DivsIn (Int.fdiv Xa Xb) (if Xb = 0 then 0 else Int.fmod Xa Xb) ok (35184372087808 + 2) w g.lo g.hi g.v), .val [4] (fun _ g vs => vs = [g.v]), .val [5] (fun _ g vs => ∃ b1 b2, vs = [.tuple #[g.v, b1, b2]]), .val [5] (fun _ g vs => ∃ b0 b2, vs = [.tuple #[b0, g.v, b2]]), .val [5] (fun _ g vs => ∃ b0 b1, vs = [.tuple #[b0, b1, g.v]]), .box 26 2, .box 26 2, .sto 9 6 26 2, .sto 10 7 26 2, .val [8] (fun _ g vs => vs = [g.v])] (by kernel_rfl) (by kernel_rfl) rfl ⟨trivial, trivial, trivial, trivial, trivial, trivial, trivial, trivial, trivial, trivial, trivial, trivial, trivial, trivial, trivial⟩ ⟨fun _ _ _ _ _ h => h, fun _ _ _ _ hb h => h.keep hb, fun _ _ _ _ _ h => h, fun _ _ _ _ hb h => h.keep hb, fun _ _ _ _ hb h => h.keep hb, fun _ _ _ _ _ h => h, fun _ _ _ _ _ h => h, fun _ _ _ _ _ h => h, fun _ _ _ _ _ h => h, trivial, trivial, trivial, trivial, fun _ _ _ _ _ h => h, trivial⟩ ⟨?_, ?_, ?_, ?_, ?_, ?_, ?_, ?_, ?_, ?_, ?_, ?_, ?_, ?_, trivial⟩ ?_
  · intro x w1 K hU hS hO hd hK
    obtain ⟨k0, k1, -⟩ := cells2 ((B1.tr (Up.tr (up_drew _) (hS.upb rfl))).blk (unhide K3).1)
    clear hd
    refine ⟨?_⟩; simp only [kgoal, putsFrom, depsOf, pu0, pu1, pu2, pu3, pz0, pz1, pz2, pz3, pz4, pz5, pz6, pz7, pz8, Nat.reduceAdd, Nat.reduceBEq, ↓reduceIte, Act.put]
    go_simp
    exact hK _ _ (Up.refl _) rfl
  · intro x w1 K hU hS hO hd hK
    have h0 : (x 0).v = .agg #[.bool ba, .slice aoa na capa] := kval (hd 0 (by decide)).1 rfl
    clear hd
    refine ⟨?_⟩; simp only [kgoal, putsFrom, depsOf, pu0, pu1, pu2, pu3, pz0, pz1, pz2, pz3, pz4, pz5, pz6, pz7, pz8, Nat.reduceAdd, Nat.reduceBEq, ↓reduceIte, Act.put]
    simp only [h0]
    go_simp
    refine (c_rd (M := na) (((unhide Ra).up hU)) (by omega)).mono ?_
    rintro e w2 ⟨v2, rfl, n2, u2⟩
    exact hK _ _ u2 n2
  · intro x w1 K hU hS hO hd hK
    obtain ⟨k0, k1, -⟩ := cells2 ((B1.tr (Up.tr (up_drew _) (hS.upb rfl))).blk (unhide K3).2)
    clear hd
    refine ⟨?_⟩; simp only [kgoal, putsFrom, depsOf, pu0, pu1, pu2, pu3, pz0, pz1, pz2, pz3, pz4, pz5, pz6, pz7, pz8, Nat.reduceAdd, Nat.reduceBEq, ↓reduceIte, Act.put]
    go_simp
    exact hK _ _ (Up.refl _) rfl
  · intro x w1 K hU hS hO hd hK
    have h2 : (x 2).v = .agg #[.bool bb, .slice aob nb capb] := kval (hd 2 (by decide)).1 rfl
    clear hd
    refine ⟨?_⟩; simp only [kgoal, putsFrom, depsOf, pu0, pu1, pu2, pu3, pz0, pz1, pz2, pz3, pz4, pz5, pz6, pz7, pz8, Nat.reduceAdd, Nat.reduceBEq, ↓reduceIte, Act.put]
    simp only [h2]
    go_simp
    refine (c_rd (M := nb) (((unhide Rb).up hU)) (by omega)).mono ?_
    rintro e w2 ⟨v2, rfl, n2, u2⟩
    exact hK _ _ u2 n2
  · intro x w1 K hU hS hO hd hK
    have h1 : NumD (Xa) (na) w1 (x 1).lo (x 1).hi (x 1).v := kval (hd 1 (by decide)).1 rfl
    have h3 : NumD (Xb) (nb) w1 (x 3).lo (x 3).hi (x 3).v := kval (hd 3 (by decide)).1 rfl
    clear hd
    refine ⟨?_⟩; simp only [kgoal, putsFrom, depsOf, pu0, pu1, pu2, pu3, pz0, pz1, pz2, pz3, pz4, pz5, pz6, pz7, pz8, Nat.reduceAdd, Nat.reduceBEq, ↓reduceIte, Act.put]
    go_simp
    refine (floor_rd (M := 35184372087808) (h1.rd (by omega)) (h3.rd (by omega)) (by omega)).mono ?_
    rintro e w2 ⟨v2, rfl, n2, u2⟩
    rw [← unhide HOK] at n2
    exact hK _ _ u2 n2
  · intro x w1 K hU hS hO hd hK
    refine ⟨?_⟩; simp only [kgoal, putsFrom, depsOf, pu0, pu1, pu2, pu3, pz0, pz1, pz2, pz3, pz4, pz5, pz6, pz7, pz8, Nat.reduceAdd, Nat.reduceBEq, ↓reduceIte, Act.put]
    go_simp
    exact hK _ _ (Up.refl _) rfl
  · intro x w1 K hU hS hO hd hK
    have h4 : DivsIn (Int.fdiv Xa Xb) (if Xb = 0 then 0 else Int.fmod Xa Xb) ok (35184372087808 + 2) w1 (x 4).lo (x 4).hi (x 4).v := kval (hd 4 (by decide)).1 rfl
    obtain ⟨aq, ar, e0, nq, nr⟩ := h4
    have e1 : [(x 4).v] = [(x 5).v] := kval (hd 5 (by decide)).1 rfl
    have ej : (x 5).v = _ := (List.cons.inj e1).1.symm.trans e0
    obtain ⟨p1, p2, p3, p4, rfl⟩ := (nq.rd (Nat.le_refl _)).agg
    obtain ⟨p5, p6, p7, p8, rfl⟩ := (nr.rd (Nat.le_refl _)).agg
    clear nq nr
    clear hd
    refine ⟨?_⟩; simp only [kgoal, putsFrom, depsOf, pu0, pu1, pu2, pu3, pz0, pz1, pz2, pz3, pz4, pz5, pz6, pz7, pz8, Nat.reduceAdd, Nat.reduceBEq, ↓reduceIte, Act.put]
    go_simp
    exact hK _ _ (Up.refl _) ⟨_, _,  by show [(x 5).v] = _; rw [ej]; rfl⟩
  · intro x w1 K hU hS hO hd hK
    have h4 : DivsIn (Int.fdiv Xa Xb) (if Xb = 0 then 0 else Int.fmod Xa Xb) ok (35184372087808 + 2) w1 (x 4).lo (x 4).hi (x 4).v := kval (hd 4 (by decide)).1 rfl
    obtain ⟨aq, ar, e0, nq, nr⟩ := h4
    have e1 : [(x 4).v] = [(x 5).v] := kval (hd 5 (by decide)).1 rfl
    have ej : (x 5).v = _ := (List.cons.inj e1).1.symm.trans e0
    obtain ⟨p1, p2, p3, p4, rfl⟩ := (nq.rd (Nat.le_refl _)).agg
    obtain ⟨p5, p6, p7, p8, rfl⟩ := (nr.rd (Nat.le_refl _)).agg
    clear nq nr
    clear hd
    refine ⟨?_⟩; simp only [kgoal, putsFrom, depsOf, pu0, pu1, pu2, pu3, pz0, pz1, pz2, pz3, pz4, pz5, pz6, pz7, pz8, Nat.reduceAdd, Nat.reduceBEq, ↓reduceIte, Act.put]
    go_simp
    exact hK _ _ (Up.refl _) ⟨_, _,  by show [(x 5).v] = _; rw [ej]; rfl⟩
  · intro x w1 K hU hS hO hd hK
    have h4 : DivsIn (Int.fdiv Xa Xb) (if Xb = 0 then 0 else Int.fmod Xa Xb) ok (35184372087808 + 2) w1 (x 4).lo (x 4).hi (x 4).v := kval (hd 4 (by decide)).1 rfl
    obtain ⟨aq, ar, e0, nq, nr⟩ := h4
    have e1 : [(x 4).v] = [(x 5).v] := kval (hd 5 (by decide)).1 rfl
    have ej : (x 5).v = _ := (List.cons.inj e1).1.symm.trans e0
    obtain ⟨p1, p2, p3, p4, rfl⟩ := (nq.rd (Nat.le_refl _)).agg
    obtain ⟨p5, p6, p7, p8, rfl⟩ := (nr.rd (Nat.le_refl _)).agg
    clear nq nr
    clear hd
    refine ⟨?_⟩; simp only [kgoal, putsFrom, depsOf, pu0, pu1, pu2, pu3, pz0, pz1, pz2, pz3, pz4, pz5, pz6, pz7, pz8, Nat.reduceAdd, Nat.reduceBEq, ↓reduceIte, Act.put]
    go_simp
    exact hK _ _ (Up.refl _) ⟨_, _,  by show [(x 5).v] = _; rw [ej]; rfl⟩
  · intro x w1 K hU hS hO hd hK
    refine ⟨?_⟩; simp only [kgoal, putsFrom, depsOf, pu0, pu1, pu2, pu3, pz0, pz1, pz2, pz3, pz4, pz5, pz6, pz7, pz8, Nat.reduceAdd, Nat.reduceBEq, ↓reduceIte, Act.put]
    go_simp
    exact hK _ _ (up_alloc _ _) (box_new rfl hS)
  · intro x w1 K hU hS hO hd hK
    refine ⟨?_⟩; simp only [kgoal, putsFrom, depsOf, pu0, pu1, pu2, pu3, pz0, pz1, pz2, pz3, pz4, pz5, pz6, pz7, pz8, Nat.reduceAdd, Nat.reduceBEq, ↓reduceIte, Act.put]
    go_simp
    exact hK _ _ (up_alloc _ _) (box_new rfl hS)
  · intro x w1 K hU hS hO hd hK
    obtain ⟨c0, c1, eb, hb⟩ := kbox2 (hd 9 (by decide)).1 rfl
    have h4 : DivsIn (Int.fdiv Xa Xb) (if Xb = 0 then 0 else Int.fmod Xa Xb) ok (35184372087808 + 2) w1 (x 4).lo (x 4).hi (x 4).v := kval (hd 4 (by decide)).1 rfl
    obtain ⟨aq, ar, e0, nq, nr⟩ := h4
    have e1 : [(x 4).v] = [(x 5).v] := kval (hd 5 (by decide)).1 rfl
    have ej : (x 5).v = _ := (List.cons.inj e1).1.symm.trans e0
    have es : ∃ b1 b2, [(x 5).v] = [Value.tuple #[(x 6).v, b1, b2]] := kval (hd 6 (by decide)).1 rfl
    obtain ⟨b1, b2, es⟩ := es
    rw [ej] at es
    obtain ⟨p1, p2, p3, p4, ea⟩ := (nq.rd (Nat.le_refl _)).agg
    replace es := (tup3 (List.cons.inj es).1).1.symm
    rw [ea] at es
    clear nq nr e0 e1 ej ea
    obtain ⟨d0, d1, f0, f1, -⟩ := cells2 hb
    clear hd
    refine ⟨?_⟩; simp only [kgoal, putsFrom, depsOf, pu0, pu1, pu2, pu3, pz0, pz1, pz2, pz3, pz4, pz5, pz6, pz7, pz8, Nat.reduceAdd, Nat.reduceBEq, ↓reduceIte, Act.put]
    go_simp
    exact hK _ _ (sto_two hb _ _).1 ⟨_, rfl, es, (sto_two hb _ _).2⟩
  · intro x w1 K hU hS hO hd hK
    obtain ⟨c0, c1, eb, hb⟩ := kbox2 (hd 10 (by decide)).1 rfl
    have h4 : DivsIn (Int.fdiv Xa Xb) (if Xb = 0 then 0 else Int.fmod Xa Xb) ok (35184372087808 + 2) w1 (x 4).lo (x 4).hi (x 4).v := kval (hd 4 (by decide)).1 rfl
    obtain ⟨aq, ar, e0, nq, nr⟩ := h4
    have e1 : [(x 4).v] = [(x 5).v] := kval (hd 5 (by decide)).1 rfl
    have ej : (x 5).v = _ := (List.cons.inj e1).1.symm.trans e0
    have es : ∃ b0 b2, [(x 5).v] = [Value.tuple #[b0, (x 7).v, b2]] := kval (hd 7 (by decide)).1 rfl
    obtain ⟨b0, b2, es⟩ := es
    rw [ej] at es
    obtain ⟨p1, p2, p3, p4, ea⟩ := (nr.rd (Nat.le_refl _)).agg
    replace es := (tup3 (List.cons.inj es).1).2.1.symm
    rw [ea] at es
    clear nq nr e0 e1 ej ea
    obtain ⟨d0, d1, f0, f1, -⟩ := cells2 hb
    clear hd
    refine ⟨?_⟩; simp only [kgoal, putsFrom, depsOf, pu0, pu1, pu2, pu3, pz0, pz1, pz2, pz3, pz4, pz5, pz6, pz7, pz8, Nat.reduceAdd, Nat.reduceBEq, ↓reduceIte, Act.put]
    go_simp
    exact hK _ _ (sto_two hb _ _).1 ⟨_, rfl, es, (sto_two hb _ _).2⟩
  · intro x w1 K hU hS hO hd hK
    refine ⟨?_⟩; simp only [kgoal, putsFrom, depsOf, pu0, pu1, pu2, pu3, pz0, pz1, pz2, pz3, pz4, pz5, pz6, pz7, pz8, Nat.reduceAdd, Nat.reduceBEq, ↓reduceIte, Act.put]
    go_simp
    exact hK _ _ (Up.refl _) rfl
  intro x w1 hU hS hR hlo hdis
  have hG := hS.upb rfl
  obtain ⟨eb1, lb1⟩ := kbox (hR 9 (by decide)) rfl
  obtain ⟨eb2, lb2⟩ := kbox (hR 10 (by decide)) rfl
  have hv : DivsIn (Int.fdiv Xa Xb) (if Xb = 0 then 0 else Int.fmod Xa Xb) ok (35184372087808 + 2) w1 (x 4).lo (x 4).hi (x 4).v := kval (hR 4 (by decide)) rfl
  obtain ⟨aq, ar, e0, nq', nr'⟩ := hv
  have e1 : [(x 4).v] = [(x 5).v] := kval (hR 5 (by decide)) rfl
  have ej : (x 5).v = _ := (List.cons.inj e1).1.symm.trans e0
  have f0 : ∃ b c, [(x 5).v] = [Value.tuple #[(x 6).v, b, c]] := kval (hR 6 (by decide)) rfl
  obtain ⟨_, _, f0⟩ := f0
  have f1 : ∃ b c, [(x 5).v] = [Value.tuple #[b, (x 7).v, c]] := kval (hR 7 (by decide)) rfl
  obtain ⟨_, _, f1⟩ := f1
  have f2 : ∃ b c, [(x 5).v] = [Value.tuple #[b, c, (x 8).v]] := kval (hR 8 (by decide)) rfl
  obtain ⟨_, _, f2⟩ := f2
  have fa : [(x 8).v] = [(x 13).v] := kval (hR 13 (by decide)) rfl
  obtain ⟨cs1, -, q1, Tf⟩ := ksto (hR 11 (by decide)) rfl
  obtain ⟨cs2, -, q2, Tm⟩ := ksto (hR 12 (by decide)) rfl
  rw [ej] at f0 f1 f2
  replace f0 := (tup3 (List.cons.inj f0).1).1.symm
  replace f1 := (tup3 (List.cons.inj f1).1).2.1.symm
  replace f2 := (tup3 (List.cons.inj f2).1).2.2.symm
  have fa' : (x 13).v = .bool ok := by rw [← f2]; exact (List.cons.inj fa).1.symm
  obtain ⟨bf, aof, nf, capf, eaf⟩ := (nq'.rd (Nat.le_refl _)).agg
  subst eaf
  rw [f0] at q1
  cases q1
  have Cf := hide nq'.rc
  obtain ⟨bm, aom, nm, capm, eam⟩ := (nr'.rd (Nat.le_refl _)).agg
  subst eam
  rw [f1] at q2
  cases q2
  have Cm := hide nr'.rc
  refine ⟨?_⟩; simp only [kgoal, putsFrom, depsOf, pu0, pu1, pu2, pu3, pz0, pz1, pz2, pz3, pz4, pz5, pz6, pz7, pz8, Nat.reduceAdd, Nat.reduceBEq, ↓reduceIte, Act.put]
  rw [eb1, eb2, fa']
  generalize (x 0).v = y0f at *
  generalize (x 1).v = y1f at *
  generalize (x 2).v = y2f at *
  generalize (x 3).v = y3f at *
  generalize (x 4).v = y4f at *
  generalize (x 5).v = y5f at *
  generalize (x 6).v = y6f at *
  generalize (x 7).v = y7f at *
  generalize (x 8).v = y8f at *
  generalize (x 9).lo = gf at *
  generalize (x 10).lo = gm at *
  have B2' := Up.tr (up_drew _) hG
  have B2 := B1.tr B2'
  have U2 := hU
  clear hR hlo hdis hS hG hU nq' nr' e0 e1 ej f0 f1 f2 fa fa' eb1 eb2
  go_wp2_with fail
  replace Tq := B2'.blk Tq
  replace Tr := B2'.blk Tr
  replace Cq := hide ((unhide Cq).up B2')
  replace Cr := hide ((unhide Cr).up B2')
  clear B2' B1 U1
  refine (of_rd 0 _ (by decide) (by decide)).mono ?_
  rintro e w3 ⟨v3, rfl, nz0, u3⟩
  obtain ⟨bz, aoz, nz, capz, ez⟩ := (nz0.rd (Nat.le_refl _)).agg
  subst ez
  have D3 := u3.tr (up_alloc w3 (.cells #[.bool bz, .slice aoz nz capz] 26))
  have Tz : (w3.alloc (.cells #[.bool bz, .slice aoz nz capz] 26)).heap[w3.heap.size]? = some (.cells #[.bool bz, .slice aoz nz capz] 26 (0, 0)) := heap_alloc_new w3 _
  have Cz := hide (nz0.rc.up (up_alloc w3 (.cells #[.bool bz, .slice aoz nz capz] 26)))
  have V3 := U2.tr D3
  have B3 := B2.tr D3
  clear nz0 B2 U2 u3
  replace Tq := D3.blk Tq
  replace Cq := hide ((unhide Cq).up D3)
  replace Tr := D3.blk Tr
  replace Cr := hide ((unhide Cr).up D3)
  replace Tf := D3.blk Tf
  replace Cf := hide ((unhide Cf).up D3)
  replace Tm := D3.blk Tm
  replace Cm := hide ((unhide Cm).up D3)
  clear D3
  rcases Int.lt_trichotomy Xb 0 with hb | hb | hb
  · have hz : cmpZ Xb 0 = -1 := cmpZ_lt hb
    obtain rfl : ok = true := by rw [unhide HOK]; simp; omega
    have HM := hide (makes_eq Xa Xb (by omega))
    go_wp2_with fail
    refine wp_region_knd (by kernel_rfl) w V3 [[], [0], [], [1, 2], [3]] [.val [] (fun _ g _ => g.v = .agg #[.bool bb, .slice aob nb capb]), .val [] (fun w g _ => NumD (Xb) (nb) w g.lo g.hi g.v), .val [] (fun _ g _ => g.v = .agg #[.bool bz, .slice aoz nz capz]), .val [] (fun _ g _ => g.v = .int .i64 (-1)), .val [] (fun _ g _ => g.v = .bool false)] (by kernel_rfl) (by kernel_rfl) rfl ⟨trivial, trivial, trivial, trivial, trivial, trivial⟩ ⟨fun _ _ _ _ _ h => h, fun _ _ _ _ hb h => h.keep hb, fun _ _ _ _ _ h => h, fun _ _ _ _ _ h => h, fun _ _ _ _ _ h => h, trivial⟩ ⟨?_, ?_, ?_, ?_, ?_, trivial⟩ ?_
    · intro x w1 K hU hS hO hd hK
      obtain ⟨k0, k1, -⟩ := cells2 ((B3.tr (Up.tr (up_drew _) (hS.upb rfl))).blk (unhide K3).2)
      clear hd
      refine ⟨?_⟩; simp only [kgoal, putsFrom, depsOf, pu0, pu1, pu2, pu3, pz0, pz1, pz2, pz3, pz4, pz5, pz6, pz7, pz8, Nat.reduceAdd, Nat.reduceBEq, ↓reduceIte, Act.put]
      go_simp
      exact hK _ _ (Up.refl _) rfl
    · intro x w1 K hU hS hO hd hK
      have h0 : (x 0).v = .agg #[.bool bb, .slice aob nb capb] := kval (hd 0 (by decide)).1 rfl
      clear hd
      refine ⟨?_⟩; simp only [kgoal, putsFrom, depsOf, pu0, pu1, pu2, pu3, pz0, pz1, pz2, pz3, pz4, pz5, pz6, pz7, pz8, Nat.reduceAdd, Nat.reduceBEq, ↓reduceIte, Act.put]
      simp only [h0]
      go_simp
      refine (c_rd (M := nb) (((unhide Rb).up hU)) (by omega)).mono ?_
      rintro e w2 ⟨v2, rfl, n2, u2⟩
      exact hK _ _ u2 n2
    · intro x w1 K hU hS hO hd hK
      obtain ⟨k0, k1, -⟩ := cells2 ((Up.tr (up_drew _) (hS.upb rfl)).blk Tz)
      clear hd
      refine ⟨?_⟩; simp only [kgoal, putsFrom, depsOf, pu0, pu1, pu2, pu3, pz0, pz1, pz2, pz3, pz4, pz5, pz6, pz7, pz8, Nat.reduceAdd, Nat.reduceBEq, ↓reduceIte, Act.put]
      go_simp
      exact hK _ _ (Up.refl _) rfl
    · intro x w1 K hU hS hO hd hK
      have h1 : NumD (Xb) (nb) w1 (x 1).lo (x 1).hi (x 1).v := kval (hd 1 (by decide)).1 rfl
      have h2 : (x 2).v = .agg #[.bool bz, .slice aoz nz capz] := kval (hd 2 (by decide)).1 rfl
      clear hd
      refine ⟨?_⟩; simp only [kgoal, putsFrom, depsOf, pu0, pu1, pu2, pu3, pz0, pz1, pz2, pz3, pz4, pz5, pz6, pz7, pz8, Nat.reduceAdd, Nat.reduceBEq, ↓reduceIte, Act.put]
      simp only [h2]
      go_simp
      refine (cmp_rd (M := 35184372087808) (h1.rd (by omega)) (((unhide Cz).rd (M' := 35184372087808) (by omega)).up (Up.tr (up_drew _) (hS.upb rfl)))).mono ?_
      rintro e w2 ⟨v2, rfl, n2, u2⟩
      rw [hz] at n2
      exact hK _ _ u2 n2
    · intro x w1 K hU hS hO hd hK
      have h3 : (x 3).v = .int .i64 (-1) := kval (hd 3 (by decide)).1 rfl
      clear hd
      refine ⟨?_⟩; simp only [kgoal, putsFrom, depsOf, pu0, pu1, pu2, pu3, pz0, pz1, pz2, pz3, pz4, pz5, pz6, pz7, pz8, Nat.reduceAdd, Nat.reduceBEq, ↓reduceIte, Act.put]
      simp only [h3]
      go_simp
      exact hK _ _ (Up.refl _) rfl
    intro x w1 hU hS hR hlo hdis
    have hfin : (x 4).v = .bool false := kval (hR 4 (by decide)) rfl
    have hG := Up.tr (up_drew _) (hS.upb rfl)
    refine ⟨?_⟩; simp only [kgoal, putsFrom, depsOf, pu0, pu1, pu2, pu3, pz0, pz1, pz2, pz3, pz4, pz5, pz6, pz7, pz8, Nat.reduceAdd, Nat.reduceBEq, ↓reduceIte, Act.put]
    rw [hfin]
    generalize (x 0).v = z0e
    generalize (x 1).v = z1e
    generalize (x 2).v = z2e
    generalize (x 3).v = z3e
    clear hR hlo hdis hS hfin
    have V3 := hU
    have B3 := B3.tr hG
    replace Tq := hG.blk Tq
    replace Cq := hide ((unhide Cq).up hG)
    replace Tr := hG.blk Tr
    replace Cr := hide ((unhide Cr).up hG)
    replace Tf := hG.blk Tf
    replace Cf := hide ((unhide Cf).up hG)
    replace Tm := hG.blk Tm
    replace Cm := hide ((unhide Cm).up hG)
    replace Tz := hG.blk Tz
    replace Cz := hide ((unhide Cz).up hG)
    clear hG
    go_wp2_with fail
    refine wp_region_knd (by kernel_rfl) w V3 [[], [0], [1], [2], [3, 2], [2, 4], [5], [6], [6], [8, 6], [7, 9, 6], [10, 7, 9, 6], [6], [11, 12, 6], [13, 11, 12, 6], [6], [15, 6], [14, 16, 6], [17, 6], [6, 18], [19], [20], [20], [22, 20], [21, 23, 20], [24, 21, 23, 20], [20], [25, 26, 20], [27, 25, 26, 20], [20], [29, 20], [28, 30, 20], [31, 20], [20, 32]] (Knd.val [] (fun _ g _ => g.v = .bool true) :: Knd.val [] (fun _ g _ => g.v = .bool false) :: Knd.val [] (fun _ g _ => g.v = .bool false) :: Knd.val [] (fun _ g _ => g.v = .bool true) :: Knd.val [] (fun _ g _ => g.v = .bool false) :: Knd.val [] (fun _ g _ => g.v = .bool false) :: Knd.val [] (fun _ g _ => g.v = .bool false) :: Knd.val [] (fun _ g _ => g.v = .agg #[.bool bq, .slice aoq nq capq]) :: Knd.val [] (fun _ g _ => g.v = .agg #[.bool bb, .slice aob nb capb]) :: Knd.val [] (fun w g _ => NumD (Xb) (nb) w g.lo g.hi g.v) :: Knd.val [7, 9] (fun w g vs => Pair2 w g vs) :: Knd.val [] (fun w g _ => NumIn ((Int.tdiv Xa Xb) * Xb) ((35184372087808 + 1) + (nb)) w g.lo g.hi g.v) :: Knd.val [] (fun _ g _ => g.v = .agg #[.bool br, .slice aor nr capr]) :: Knd.val [11, 12] (fun w g vs => Pair2 w g vs) :: Knd.val [] (fun w g _ => NumIn (((Int.tdiv Xa Xb) * Xb) + (rz Xa Xb)) (70368744175620 + 1) w g.lo g.hi g.v) :: Knd.val [] (fun _ g _ => g.v = .agg #[.bool ba, .slice aoa na capa]) :: Knd.val [] (fun w g _ => NumD (Xa) (na) w g.lo g.hi g.v) :: Knd.val [] (fun _ g _ => g.v = .int .i64 (0)) :: Knd.val [] (fun _ g _ => g.v = .bool false) :: Knd.val [] (fun _ g _ => g.v = .bool false) :: Knd.val [] (fun _ g _ => g.v = .bool false) :: Knd.val [] (fun _ g _ => g.v = .agg #[.bool bf, .slice aof nf capf]) :: Knd.val [] (fun _ g _ => g.v = .agg #[.bool bb, .slice aob nb capb]) :: Knd.val [] (fun w g _ => NumD (Xb) (nb) w g.lo g.hi g.v) :: Knd.val [21, 23] (fun w g vs => Pair2 w g vs) :: Knd.val [] (fun w g _ => NumIn ((Int.fdiv Xa Xb) * Xb) ((35184372087808 + 2) + (nb)) w g.lo g.hi g.v) :: Knd.val [] (fun _ g _ => g.v = .agg #[.bool bm, .slice aom nm capm]) :: Knd.val [25, 26] (fun w g vs => Pair2 w g vs) :: Knd.val [] (fun w g _ => NumIn (((Int.fdiv Xa Xb) * Xb) + (if Xb = 0 then 0 else Int.fmod Xa Xb)) (70368744175620 + 1) w g.lo g.hi g.v) :: Knd.val [] (fun _ g _ => g.v = .agg #[.bool ba, .slice aoa na capa]) :: Knd.val [] (fun w g _ => NumD (Xa) (na) w g.lo g.hi g.v) :: Knd.val [] (fun _ g _ => g.v = .int .i64 (0)) :: Knd.val [] (fun _ g _ => g.v = .bool false) :: Knd.val [] (fun _ g _ => g.v = .bool false) :: []) (by kernel_rfl) (by kernel_rfl) rfl ⟨trivial, trivial, trivial, trivial, trivial, trivial, trivial, trivial, trivial, trivial, trivial, trivial, trivial, trivial, trivial, trivial, trivial, trivial, trivial, trivial, trivial, trivial, trivial, trivial, trivial, trivial, trivial, trivial, trivial, trivial, trivial, trivial, trivial, trivial, trivial⟩ ⟨fun _ _ _ _ _ h => h, fun _ _ _ _ _ h => h, fun _ _ _ _ _ h => h, fun _ _ _ _ _ h => h, fun _ _ _ _ _ h => h, fun _ _ _ _ _ h => h, fun _ _ _ _ _ h => h, fun _ _ _ _ _ h => h, fun _ _ _ _ _ h => h, fun _ _ _ _ hb h => h.keep hb, fun _ _ _ _ hb h => h.keep hb, fun _ _ _ _ hb h => h.keep hb, fun _ _ _ _ _ h => h, fun _ _ _ _ hb h => h.keep hb, fun _ _ _ _ hb h => h.keep hb, fun _ _ _ _ _ h => h, fun _ _ _ _ hb h => h.keep hb, fun _ _ _ _ _ h => h, fun _ _ _ _ _ h => h, fun _ _ _ _ _ h => h, fun _ _ _ _ _ h => h, fun _ _ _ _ _ h => h, fun _ _ _ _ _ h => h, fun _ _ _ _ hb h => h.keep hb, fun _ _ _ _ hb h => h.keep hb, fun _ _ _ _ hb h => h.keep hb, fun _ _ _ _ _ h => h, fun _ _ _ _ hb h => h.keep hb, fun _ _ _ _ hb h => h.keep hb, fun _ _ _ _ _ h => h, fun _ _ _ _ hb h => h.keep hb, fun _ _ _ _ _ h => h, fun _ _ _ _ _ h => h, fun _ _ _ _ _ h => h, trivial⟩ ⟨?_, ?_, ?_, ?_, ?_, ?_, ?_, ?_, ?_, ?_, ?_, ?_, ?_, ?_, ?_, ?_, ?_, ?_, ?_, ?_, ?_, ?_, ?_, ?_, ?_, ?_, ?_, ?_, ?_, ?_, ?_, ?_, ?_, ?_, trivial⟩ ?_
    · intro x w1 K hU hS hO hd hK
      clear hd
      refine ⟨?_⟩; simp only [kgoal, putsFrom, depsOf, pu0, pu1, pu2, pu3, pz0, pz1, pz2, pz3, pz4, pz5, pz6, pz7, pz8, Nat.reduceAdd, Nat.reduceBEq, ↓reduceIte, Act.put]
      go_simp
      exact hK _ _ (Up.refl _) rfl
    · intro x w1 K hU hS hO hd hK
      have h0 : (x 0).v = .bool true := kval (hd 0 (by decide)).1 rfl
      clear hd
      refine ⟨?_⟩; simp only [kgoal, putsFrom, depsOf, pu0, pu1, pu2, pu3, pz0, pz1, pz2, pz3, pz4, pz5, pz6, pz7, pz8, Nat.reduceAdd, Nat.reduceBEq, ↓reduceIte, Act.put]
      simp only [h0]
      go_simp
      exact hK _ _ (Up.refl _) rfl
    · intro x w1 K hU hS hO hd hK
      have h1 : (x 1).v = .bool false := kval (hd 1 (by decide)).1 rfl
      clear hd
      refine ⟨?_⟩; simp only [kgoal, putsFrom, depsOf, pu0, pu1, pu2, pu3, pz0, pz1, pz2, pz3, pz4, pz5, pz6, pz7, pz8, Nat.reduceAdd, Nat.reduceBEq, ↓reduceIte, Act.put]
      simp only [h1]
      go_simp
      exact hK _ _ (Up.refl _) rfl
    · intro x w1 K hU hS hO hd hK
      have h2 : (x 2).v = .bool false := kval (hd 2 (by decide)).1 rfl
      clear hd
      refine ⟨?_⟩; simp only [kgoal, putsFrom, depsOf, pu0, pu1, pu2, pu3, pz0, pz1, pz2, pz3, pz4, pz5, pz6, pz7, pz8, Nat.reduceAdd, Nat.reduceBEq, ↓reduceIte, Act.put]
      simp only [h2]
      rw [if_pos (by rfl)]
      go_simp
      exact hK _ _ (Up.refl _) rfl
    · intro x w1 K hU hS hO hd hK
      have h3 : (x 3).v = .bool true := kval (hd 3 (by decide)).1 rfl
      have h2 : (x 2).v = .bool false := kval (hd 2 (by decide)).1 rfl
      clear hd
      refine ⟨?_⟩; simp only [kgoal, putsFrom, depsOf, pu0, pu1, pu2, pu3, pz0, pz1, pz2, pz3, pz4, pz5, pz6, pz7, pz8, Nat.reduceAdd, Nat.reduceBEq, ↓reduceIte, Act.put]
      simp only [h3, h2]
      rw [if_pos (by rfl)]
      go_simp
      exact hK _ _ (Up.refl _) rfl
    · intro x w1 K hU hS hO hd hK
      have h2 : (x 2).v = .bool false := kval (hd 2 (by decide)).1 rfl
      have h4 : (x 4).v = .bool false := kval (hd 4 (by decide)).1 rfl
      clear hd
      refine ⟨?_⟩; simp only [kgoal, putsFrom, depsOf, pu0, pu1, pu2, pu3, pz0, pz1, pz2, pz3, pz4, pz5, pz6, pz7, pz8, Nat.reduceAdd, Nat.reduceBEq, ↓reduceIte, Act.put]
      simp only [h2, h4]
      go_simp
      exact hK _ _ (Up.refl _) rfl
    · intro x w1 K hU hS hO hd hK
      have h5 : (x 5).v = .bool false := kval (hd 5 (by decide)).1 rfl
      clear hd
      refine ⟨?_⟩; simp only [kgoal, putsFrom, depsOf, pu0, pu1, pu2, pu3, pz0, pz1, pz2, pz3, pz4, pz5, pz6, pz7, pz8, Nat.reduceAdd, Nat.reduceBEq, ↓reduceIte, Act.put]
      simp only [h5]
      go_simp
      exact hK _ _ (Up.refl _) rfl
    · intro x w1 K hU hS hO hd hK
      have h6 : (x 6).v = .bool false := kval (hd 6 (by decide)).1 rfl
      obtain ⟨k0, k1, -⟩ := cells2 ((Up.tr (up_drew _) (hS.upb rfl)).blk Tq)
      clear hd
      refine ⟨?_⟩; simp only [kgoal, putsFrom, depsOf, pu0, pu1, pu2, pu3, pz0, pz1, pz2, pz3, pz4, pz5, pz6, pz7, pz8, Nat.reduceAdd, Nat.reduceBEq, ↓reduceIte, Act.put]
      simp only [h6]
      rw [if_pos (by rfl)]
      go_simp
      exact hK _ _ (Up.refl _) rfl
    · intro x w1 K hU hS hO hd hK
      have h6 : (x 6).v = .bool false := kval (hd 6 (by decide)).1 rfl
      obtain ⟨k0, k1, -⟩ := cells2 ((B3.tr (Up.tr (up_drew _) (hS.upb rfl))).blk (unhide K3).2)
      clear hd
      refine ⟨?_⟩; simp only [kgoal, putsFrom, depsOf, pu0, pu1, pu2, pu3, pz0, pz1, pz2, pz3, pz4, pz5, pz6, pz7, pz8, Nat.reduceAdd, Nat.reduceBEq, ↓reduceIte, Act.put]
      simp only [h6]
      rw [if_pos (by rfl)]
      go_simp
      exact hK _ _ (Up.refl _) rfl
    · intro x w1 K hU hS hO hd hK
      have h8 : (x 8).v = .agg #[.bool bb, .slice aob nb capb] := kval (hd 8 (by decide)).1 rfl
      have h6 : (x 6).v = .bool false := kval (hd 6 (by decide)).1 rfl
      clear hd
      refine ⟨?_⟩; simp only [kgoal, putsFrom, depsOf, pu0, pu1, pu2, pu3, pz0, pz1, pz2, pz3, pz4, pz5, pz6, pz7, pz8, Nat.reduceAdd, Nat.reduceBEq, ↓reduceIte, Act.put]
      simp only [h8, h6]
      rw [if_pos (by rfl)]
      go_simp
      refine (c_rd (M := nb) (((unhide Rb).up hU)) (by omega)).mono ?_
      rintro e w2 ⟨v2, rfl, n2, u2⟩
      exact hK _ _ u2 n2
    · intro x w1 K hU hS hO hd hK
      have h7 : (x 7).v = .agg #[.bool bq, .slice aoq nq capq] := kval (hd 7 (by decide)).1 rfl
      have h9 : NumD (Xb) (nb) w1 (x 9).lo (x 9).hi (x 9).v := kval (hd 9 (by decide)).1 rfl
      have h6 : (x 6).v = .bool false := kval (hd 6 (by decide)).1 rfl
      obtain ⟨pb, qb, rb, tb, eb⟩ := (h9.rd (Nat.le_refl _)).agg
      clear hd
      refine ⟨?_⟩; simp only [kgoal, putsFrom, depsOf, pu0, pu1, pu2, pu3, pz0, pz1, pz2, pz3, pz4, pz5, pz6, pz7, pz8, Nat.reduceAdd, Nat.reduceBEq, ↓reduceIte, Act.put]
      simp only [h7, eb, h6]
      rw [if_pos (by rfl)]
      go_simp
      exact hK _ _ (up_alloc _ _) ⟨rfl, by show w1.heap.size < (w1.alloc _).heap.size; simp, _, _, _, _, by show [(x 7).v, (x 9).v] = _; rw [h7, eb], heap_alloc_new w1 _⟩
    · intro x w1 K hU hS hO hd hK
      have h10 : Pair2 w1 (x 10) [(x 7).v, (x 9).v] := kval (hd 10 (by decide)).1 rfl
      have h7 : (x 7).v = .agg #[.bool bq, .slice aoq nq capq] := kval (hd 7 (by decide)).1 rfl
      have h9 : NumD (Xb) (nb) w1 (x 9).lo (x 9).hi (x 9).v := kval (hd 9 (by decide)).1 rfl
      have h6 : (x 6).v = .bool false := kval (hd 6 (by decide)).1 rfl
      obtain ⟨ep, -, b1, v1, b2, v2, ql, hb⟩ := h10
      have ea := (List.cons.inj ql).1
      have eb := (List.cons.inj (List.cons.inj ql).2).1
      rw [h7] at ea
      cases ea
      rw [eb] at h9
      clear hd
      refine ⟨?_⟩; simp only [kgoal, putsFrom, depsOf, pu0, pu1, pu2, pu3, pz0, pz1, pz2, pz3, pz4, pz5, pz6, pz7, pz8, Nat.reduceAdd, Nat.reduceBEq, ↓reduceIte, Act.put]
      simp only [ep, h7, h6]
      rw [if_pos (by rfl)]
      go_simp
      refine (mul2_rd (M1 := 35184372087808 + 1) (M2 := nb) hb (((unhide Cq).rd (M' := 35184372087808 + 1) (by omega)).up (Up.tr (up_drew _) (hS.upb rfl))) (h9.rd (by omega)) (by omega)).mono ?_
      rintro e w2 ⟨v2, rfl, n2, u2⟩
      exact hK _ _ u2 n2
    · intro x w1 K hU hS hO hd hK
      have h6 : (x 6).v = .bool false := kval (hd 6 (by decide)).1 rfl
      obtain ⟨k0, k1, -⟩ := cells2 ((Up.tr (up_drew _) (hS.upb rfl)).blk Tr)
      clear hd
      refine ⟨?_⟩; simp only [kgoal, putsFrom, depsOf, pu0, pu1, pu2, pu3, pz0, pz1, pz2, pz3, pz4, pz5, pz6, pz7, pz8, Nat.reduceAdd, Nat.reduceBEq, ↓reduceIte, Act.put]
      simp only [h6]
      rw [if_pos (by rfl)]
      go_simp
      exact hK _ _ (Up.refl _) rfl
    · intro x w1 K hU hS hO hd hK
      have h11 : NumIn ((Int.tdiv Xa Xb) * Xb) ((35184372087808 + 1) + (nb)) w1 (x 11).lo (x 11).hi (x 11).v := kval (hd 11 (by decide)).1 rfl
      have h12 : (x 12).v = .agg #[.bool br, .slice aor nr capr] := kval (hd 12 (by decide)).1 rfl
      have h6 : (x 6).v = .bool false := kval (hd 6 (by decide)).1 rfl
      obtain ⟨pa, qa, ra, ta, ea⟩ := (h11.rd (Nat.le_refl _)).agg
      clear hd
      refine ⟨?_⟩; simp only [kgoal, putsFrom, depsOf, pu0, pu1, pu2, pu3, pz0, pz1, pz2, pz3, pz4, pz5, pz6, pz7, pz8, Nat.reduceAdd, Nat.reduceBEq, ↓reduceIte, Act.put]
      simp only [ea, h12, h6]
      rw [if_pos (by rfl)]
      go_simp
      exact hK _ _ (up_alloc _ _) ⟨rfl, by show w1.heap.size < (w1.alloc _).heap.size; simp, _, _, _, _, by show [(x 11).v, (x 12).v] = _; rw [ea, h12], heap_alloc_new w1 _⟩
    · intro x w1 K hU hS hO hd hK
      have h13 : Pair2 w1 (x 13) [(x 11).v, (x 12).v] := kval (hd 13 (by decide)).1 rfl
      have h11 : NumIn ((Int.tdiv Xa Xb) * Xb) ((35184372087808 + 1) + (nb)) w1 (x 11).lo (x 11).hi (x 11).v := kval (hd 11 (by decide)).1 rfl
      have h12 : (x 12).v = .agg #[.bool br, .slice aor nr capr] := kval (hd 12 (by decide)).1 rfl
      have h6 : (x 6).v = .bool false := kval (hd 6 (by decide)).1 rfl
      obtain ⟨ep, -, b1, v1, b2, v2, ql, hb⟩ := h13
      have ea := (List.cons.inj ql).1
      have eb := (List.cons.inj (List.cons.inj ql).2).1
      rw [ea] at h11
      rw [h12] at eb
      cases eb
      clear hd
      refine ⟨?_⟩; simp only [kgoal, putsFrom, depsOf, pu0, pu1, pu2, pu3, pz0, pz1, pz2, pz3, pz4, pz5, pz6, pz7, pz8, Nat.reduceAdd, Nat.reduceBEq, ↓reduceIte, Act.put]
      simp only [ep, h12, h6]
      rw [if_pos (by rfl)]
      go_simp
      refine (add2_rd (M := 70368744175620) hb (h11.rd (by omega)) (((unhide Cr).rd (M' := 70368744175620) (by omega)).up (Up.tr (up_drew _) (hS.upb rfl))) (by omega)).mono ?_
      rintro e w2 ⟨v2, rfl, n2, u2⟩
      exact hK _ _ u2 n2
    · intro x w1 K hU hS hO hd hK
      have h6 : (x 6).v = .bool false := kval (hd 6 (by decide)).1 rfl
      obtain ⟨k0, k1, -⟩ := cells2 ((B3.tr (Up.tr (up_drew _) (hS.upb rfl))).blk (unhide K3).1)
      clear hd
      refine ⟨?_⟩; simp only [kgoal, putsFrom, depsOf, pu0, pu1, pu2, pu3, pz0, pz1, pz2, pz3, pz4, pz5, pz6, pz7, pz8, Nat.reduceAdd, Nat.reduceBEq, ↓reduceIte, Act.put]
      simp only [h6]
      rw [if_pos (by rfl)]
      go_simp
      exact hK _ _ (Up.refl _) rfl
    · intro x w1 K hU hS hO hd hK
      have h15 : (x 15).v = .agg #[.bool ba, .slice aoa na capa] := kval (hd 15 (by decide)).1 rfl
      have h6 : (x 6).v = .bool false := kval (hd 6 (by decide)).1 rfl
      clear hd
      refine ⟨?_⟩; simp only [kgoal, putsFrom, depsOf, pu0, pu1, pu2, pu3, pz0, pz1, pz2, pz3, pz4, pz5, pz6, pz7, pz8, Nat.reduceAdd, Nat.reduceBEq, ↓reduceIte, Act.put]
      simp only [h15, h6]
      rw [if_pos (by rfl)]
      go_simp
      refine (c_rd (M := na) (((unhide Ra).up hU)) (by omega)).mono ?_
      rintro e w2 ⟨v2, rfl, n2, u2⟩
      exact hK _ _ u2 n2
    · intro x w1 K hU hS hO hd hK
      have h14 : NumIn (((Int.tdiv Xa Xb) * Xb) + (rz Xa Xb)) (70368744175620 + 1) w1 (x 14).lo (x 14).hi (x 14).v := kval (hd 14 (by decide)).1 rfl
      have h16 : NumD (Xa) (na) w1 (x 16).lo (x 16).hi (x 16).v := kval (hd 16 (by decide)).1 rfl
      have h6 : (x 6).v = .bool false := kval (hd 6 (by decide)).1 rfl
      clear hd
      refine ⟨?_⟩; simp only [kgoal, putsFrom, depsOf, pu0, pu1, pu2, pu3, pz0, pz1, pz2, pz3, pz4, pz5, pz6, pz7, pz8, Nat.reduceAdd, Nat.reduceBEq, ↓reduceIte, Act.put]
      simp only [h6]
      rw [if_pos (by rfl)]
      go_simp
      refine (cmp_rd (M := 70368744175621) (h14.rd (by omega)) (h16.rd (by omega))).mono ?_
      rintro e w2 ⟨v2, rfl, n2, u2⟩
      rw [(unhide HM).1] at n2
      exact hK _ _ u2 n2
    · intro x w1 K hU hS hO hd hK
      have h17 : (x 17).v = .int .i64 (0) := kval (hd 17 (by decide)).1 rfl
      have h6 : (x 6).v = .bool false := kval (hd 6 (by decide)).1 rfl
      clear hd
      refine ⟨?_⟩; simp only [kgoal, putsFrom, depsOf, pu0, pu1, pu2, pu3, pz0, pz1, pz2, pz3, pz4, pz5, pz6, pz7, pz8, Nat.reduceAdd, Nat.reduceBEq, ↓reduceIte, Act.put]
      simp only [h17, h6]
      rw [if_pos (by rfl)]
      go_simp
      exact hK _ _ (Up.refl _) rfl
    · intro x w1 K hU hS hO hd hK
      have h6 : (x 6).v = .bool false := kval (hd 6 (by decide)).1 rfl
      have h18 : (x 18).v = .bool false := kval (hd 18 (by decide)).1 rfl
      clear hd
      refine ⟨?_⟩; simp only [kgoal, putsFrom, depsOf, pu0, pu1, pu2, pu3, pz0, pz1, pz2, pz3, pz4, pz5, pz6, pz7, pz8, Nat.reduceAdd, Nat.reduceBEq, ↓reduceIte, Act.put]
      simp only [h6, h18]
      go_simp
      exact hK _ _ (Up.refl _) rfl
    · intro x w1 K hU hS hO hd hK
      have h19 : (x 19).v = .bool false := kval (hd 19 (by decide)).1 rfl
      clear hd
      refine ⟨?_⟩; simp only [kgoal, putsFrom, depsOf, pu0, pu1, pu2, pu3, pz0, pz1, pz2, pz3, pz4, pz5, pz6, pz7, pz8, Nat.reduceAdd, Nat.reduceBEq, ↓reduceIte, Act.put]
      simp only [h19]
      go_simp
      exact hK _ _ (Up.refl _) rfl
    · intro x w1 K hU hS hO hd hK
      have h20 : (x 20).v = .bool false := kval (hd 20 (by decide)).1 rfl
      obtain ⟨k0, k1, -⟩ := cells2 ((Up.tr (up_drew _) (hS.upb rfl)).blk Tf)
      clear hd
      refine ⟨?_⟩; simp only [kgoal, putsFrom, depsOf, pu0, pu1, pu2, pu3, pz0, pz1, pz2, pz3, pz4, pz5, pz6, pz7, pz8, Nat.reduceAdd, Nat.reduceBEq, ↓reduceIte, Act.put]
      simp only [h20]
      rw [if_pos (by rfl)]
      go_simp
      exact hK _ _ (Up.refl _) rfl
    · intro x w1 K hU hS hO hd hK
      have h20 : (x 20).v = .bool false := kval (hd 20 (by decide)).1 rfl
      obtain ⟨k0, k1, -⟩ := cells2 ((B3.tr (Up.tr (up_drew _) (hS.upb rfl))).blk (unhide K3).2)
      clear hd
      refine ⟨?_⟩; simp only [kgoal, putsFrom, depsOf, pu0, pu1, pu2, pu3, pz0, pz1, pz2, pz3, pz4, pz5, pz6, pz7, pz8, Nat.reduceAdd, Nat.reduceBEq, ↓reduceIte, Act.put]
      simp only [h20]
      rw [if_pos (by rfl)]
      go_simp
      exact hK _ _ (Up.refl _) rfl
    · intro x w1 K hU hS hO hd hK
      have h22 : (x 22).v = .agg #[.bool bb, .slice aob nb capb] := kval (hd 22 (by decide)).1 rfl
      have h20 : (x 20).v = .bool false := kval (hd 20 (by decide)).1 rfl
      clear hd
      refine ⟨?_⟩; simp only [kgoal, putsFrom, depsOf, pu0, pu1, pu2, pu3, pz0, pz1, pz2, pz3, pz4, pz5, pz6, pz7, pz8, Nat.reduceAdd, Nat.reduceBEq, ↓reduceIte, Act.put]
      simp only [h22, h20]
      rw [if_pos (by rfl)]
      go_simp
      refine (c_rd (M := nb) (((unhide Rb).up hU)) (by omega)).mono ?_
      rintro e w2 ⟨v2, rfl, n2, u2⟩
      exact hK _ _ u2 n2
    · intro x w1 K hU hS hO hd hK
      have h21 : (x 21).v = .agg #[.bool bf, .slice aof nf capf] := kval (hd 21 (by decide)).1 rfl
      have h23 : NumD (Xb) (nb) w1 (x 23).lo (x 23).hi (x 23).v := kval (hd 23 (by decide)).1 rfl
      have h20 : (x 20).v = .bool false := kval (hd 20 (by decide)).1 rfl
      obtain ⟨pb, qb, rb, tb, eb⟩ := (h23.rd (Nat.le_refl _)).agg
      clear hd
      refine ⟨?_⟩; simp only [kgoal, putsFrom, depsOf, pu0, pu1, pu2, pu3, pz0, pz1, pz2, pz3, pz4, pz5, pz6, pz7, pz8, Nat.reduceAdd, Nat.reduceBEq, ↓reduceIte, Act.put]
      simp only [h21, eb, h20]
      rw [if_pos (by rfl)]
      go_simp
      exact hK _ _ (up_alloc _ _) ⟨rfl, by show w1.heap.size < (w1.alloc _).heap.size; simp, _, _, _, _, by show [(x 21).v, (x 23).v] = _; rw [h21, eb], heap_alloc_new w1 _⟩
    · intro x w1 K hU hS hO hd hK
      have h24 : Pair2 w1 (x 24) [(x 21).v, (x 23).v] := kval (hd 24 (by decide)).1 rfl
      have h21 : (x 21).v = .agg #[.bool bf, .slice aof nf capf] := kval (hd 21 (by decide)).1 rfl
      have h23 : NumD (Xb) (nb) w1 (x 23).lo (x 23).hi (x 23).v := kval (hd 23 (by decide)).1 rfl
      have h20 : (x 20).v = .bool false := kval (hd 20 (by decide)).1 rfl
      obtain ⟨ep, -, b1, v1, b2, v2, ql, hb⟩ := h24
      have ea := (List.cons.inj ql).1
      have eb := (List.cons.inj (List.cons.inj ql).2).1
      rw [h21] at ea
      cases ea
      rw [eb] at h23
      clear hd
      refine ⟨?_⟩; simp only [kgoal, putsFrom, depsOf, pu0, pu1, pu2, pu3, pz0, pz1, pz2, pz3, pz4, pz5, pz6, pz7, pz8, Nat.reduceAdd, Nat.reduceBEq, ↓reduceIte, Act.put]
      simp only [ep, h21, h20]
      rw [if_pos (by rfl)]
      go_simp
      refine (mul2_rd (M1 := 35184372087808 + 2) (M2 := nb) hb (((unhide Cf).rd (M' := 35184372087808 + 2) (by omega)).up (Up.tr (up_drew _) (hS.upb rfl))) (h23.rd (by omega)) (by omega)).mono ?_
      rintro e w2 ⟨v2, rfl, n2, u2⟩
      exact hK _ _ u2 n2
    · intro x w1 K hU hS hO hd hK
      have h20 : (x 20).v = .bool false := kval (hd 20 (by decide)).1 rfl
      obtain ⟨k0, k1, -⟩ := cells2 ((Up.tr (up_drew _) (hS.upb rfl)).blk Tm)
      clear hd
      refine ⟨?_⟩; simp only [kgoal, putsFrom, depsOf, pu0, pu1, pu2, pu3, pz0, pz1, pz2, pz3, pz4, pz5, pz6, pz7, pz8, Nat.reduceAdd, Nat.reduceBEq, ↓reduceIte, Act.put]
      simp only [h20]
      rw [if_pos (by rfl)]
      go_simp
      exact hK _ _ (Up.refl _) rfl
    · intro x w1 K hU hS hO hd hK
      have h25 : NumIn ((Int.fdiv Xa Xb) * Xb) ((35184372087808 + 2) + (nb)) w1 (x 25).lo (x 25).hi (x 25).v := kval (hd 25 (by decide)).1 rfl
      have h26 : (x 26).v = .agg #[.bool bm, .slice aom nm capm] := kval (hd 26 (by decide)).1 rfl
      have h20 : (x 20).v = .bool false := kval (hd 20 (by decide)).1 rfl
      obtain ⟨pa, qa, ra, ta, ea⟩ := (h25.rd (Nat.le_refl _)).agg
      clear hd
      refine ⟨?_⟩; simp only [kgoal, putsFrom, depsOf, pu0, pu1, pu2, pu3, pz0, pz1, pz2, pz3, pz4, pz5, pz6, pz7, pz8, Nat.reduceAdd, Nat.reduceBEq, ↓reduceIte, Act.put]
      simp only [ea, h26, h20]
      rw [if_pos (by rfl)]
      go_simp
      exact hK _ _ (up_alloc _ _) ⟨rfl, by show w1.heap.size < (w1.alloc _).heap.size; simp, _, _, _, _, by show [(x 25).v, (x 26).v] = _; rw [ea, h26], heap_alloc_new w1 _⟩
    · intro x w1 K hU hS hO hd hK
      have h27 : Pair2 w1 (x 27) [(x 25).v, (x 26).v] := kval (hd 27 (by decide)).1 rfl
      have h25 : NumIn ((Int.fdiv Xa Xb) * Xb) ((35184372087808 + 2) + (nb)) w1 (x 25).lo (x 25).hi (x 25).v := kval (hd 25 (by decide)).1 rfl
      have h26 : (x 26).v = .agg #[.bool bm, .slice aom nm capm] := kval (hd 26 (by decide)).1 rfl
      have h20 : (x 20).v = .bool false := kval (hd 20 (by decide)).1 rfl
      obtain ⟨ep, -, b1, v1, b2, v2, ql, hb⟩ := h27
      have ea := (List.cons.inj ql).1
      have eb := (List.cons.inj (List.cons.inj ql).2).1
      rw [ea] at h25
      rw [h26] at eb
      cases eb
      clear hd
      refine ⟨?_⟩; simp only [kgoal, putsFrom, depsOf, pu0, pu1, pu2, pu3, pz0, pz1, pz2, pz3, pz4, pz5, pz6, pz7, pz8, Nat.reduceAdd, Nat.reduceBEq, ↓reduceIte, Act.put]
      simp only [ep, h26, h20]
      rw [if_pos (by rfl)]
      go_simp
      refine (add2_rd (M := 70368744175620) hb (h25.rd (by omega)) (((unhide Cm).rd (M' := 70368744175620) (by omega)).up (Up.tr (up_drew _) (hS.upb rfl))) (by omega)).mono ?_
      rintro e w2 ⟨v2, rfl, n2, u2⟩
      exact hK _ _ u2 n2
    · intro x w1 K hU hS hO hd hK
      have h20 : (x 20).v = .bool false := kval (hd 20 (by decide)).1 rfl
      obtain ⟨k0, k1, -⟩ := cells2 ((B3.tr (Up.tr (up_drew _) (hS.upb rfl))).blk (unhide K3).1)
      clear hd
      refine ⟨?_⟩; simp only [kgoal, putsFrom, depsOf, pu0, pu1, pu2, pu3, pz0, pz1, pz2, pz3, pz4, pz5, pz6, pz7, pz8, Nat.reduceAdd, Nat.reduceBEq, ↓reduceIte, Act.put]
      simp only [h20]
      rw [if_pos (by rfl)]
      go_simp
      exact hK _ _ (Up.refl _) rfl
    · intro x w1 K hU hS hO hd hK
      have h29 : (x 29).v = .agg #[.bool ba, .slice aoa na capa] := kval (hd 29 (by decide)).1 rfl
      have h20 : (x 20).v = .bool false := kval (hd 20 (by decide)).1 rfl
      clear hd
      refine ⟨?_⟩; simp only [kgoal, putsFrom, depsOf, pu0, pu1, pu2, pu3, pz0, pz1, pz2, pz3, pz4, pz5, pz6, pz7, pz8, Nat.reduceAdd, Nat.reduceBEq, ↓reduceIte, Act.put]
      simp only [h29, h20]
      rw [if_pos (by rfl)]
      go_simp
      refine (c_rd (M := na) (((unhide Ra).up hU)) (by omega)).mono ?_
      rintro e w2 ⟨v2, rfl, n2, u2⟩
      exact hK _ _ u2 n2
    · intro x w1 K hU hS hO hd hK
      have h28 : NumIn (((Int.fdiv Xa Xb) * Xb) + (if Xb = 0 then 0 else Int.fmod Xa Xb)) (70368744175620 + 1) w1 (x 28).lo (x 28).hi (x 28).v := kval (hd 28 (by decide)).1 rfl
      have h30 : NumD (Xa) (na) w1 (x 30).lo (x 30).hi (x 30).v := kval (hd 30 (by decide)).1 rfl
      have h20 : (x 20).v = .bool false := kval (hd 20 (by decide)).1 rfl
      clear hd
      refine ⟨?_⟩; simp only [kgoal, putsFrom, depsOf, pu0, pu1, pu2, pu3, pz0, pz1, pz2, pz3, pz4, pz5, pz6, pz7, pz8, Nat.reduceAdd, Nat.reduceBEq, ↓reduceIte, Act.put]
      simp only [h20]
      rw [if_pos (by rfl)]
      go_simp
      refine (cmp_rd (M := 70368744175621) (h28.rd (by omega)) (h30.rd (by omega))).mono ?_
      rintro e w2 ⟨v2, rfl, n2, u2⟩
      rw [(unhide HM).2] at n2
      exact hK _ _ u2 n2
    · intro x w1 K hU hS hO hd hK
      have h31 : (x 31).v = .int .i64 (0) := kval (hd 31 (by decide)).1 rfl
      have h20 : (x 20).v = .bool false := kval (hd 20 (by decide)).1 rfl
      clear hd
      refine ⟨?_⟩; simp only [kgoal, putsFrom, depsOf, pu0, pu1, pu2, pu3, pz0, pz1, pz2, pz3, pz4, pz5, pz6, pz7, pz8, Nat.reduceAdd, Nat.reduceBEq, ↓reduceIte, Act.put]
      simp only [h31, h20]
      rw [if_pos (by rfl)]
      go_simp
      exact hK _ _ (Up.refl _) rfl
    · intro x w1 K hU hS hO hd hK
      have h20 : (x 20).v = .bool false := kval (hd 20 (by decide)).1 rfl
      have h32 : (x 32).v = .bool false := kval (hd 32 (by decide)).1 rfl
      clear hd
      refine ⟨?_⟩; simp only [kgoal, putsFrom, depsOf, pu0, pu1, pu2, pu3, pz0, pz1, pz2, pz3, pz4, pz5, pz6, pz7, pz8, Nat.reduceAdd, Nat.reduceBEq, ↓reduceIte, Act.put]
      simp only [h20, h32]
      go_simp
      exact hK _ _ (Up.refl _) rfl
    intro x w1 hU hS hR hlo hdis
    have hfin : (x 33).v = .bool false := kval (hR 33 (by decide)) rfl
    have hG := Up.tr (up_drew _) (hS.upb rfl)
    refine ⟨?_⟩; simp only [kgoal, putsFrom, depsOf, pu0, pu1, pu2, pu3, pz0, pz1, pz2, pz3, pz4, pz5, pz6, pz7, pz8, Nat.reduceAdd, Nat.reduceBEq, ↓reduceIte, Act.put]
    rw [hfin]
    generalize (x 0).v = z0g
    generalize (x 1).v = z1g
    generalize (x 2).v = z2g
    generalize (x 3).v = z3g
    generalize (x 4).v = z4g
    generalize (x 5).v = z5g
    generalize (x 6).v = z6g
    generalize (x 7).v = z7g
    generalize (x 8).v = z8g
    generalize (x 9).v = z9g
    generalize (x 10).v = z10g
    generalize (x 11).v = z11g
    generalize (x 12).v = z12g
    generalize (x 13).v = z13g
    generalize (x 14).v = z14g
    generalize (x 15).v = z15g
    generalize (x 16).v = z16g
    generalize (x 17).v = z17g
    generalize (x 18).v = z18g
    generalize (x 19).v = z19g
    generalize (x 20).v = z20g
    generalize (x 21).v = z21g
    generalize (x 22).v = z22g
    generalize (x 23).v = z23g
    generalize (x 24).v = z24g
    generalize (x 25).v = z25g
    generalize (x 26).v = z26g
    generalize (x 27).v = z27g
    generalize (x 28).v = z28g
    generalize (x 29).v = z29g
    generalize (x 30).v = z30g
    generalize (x 31).v = z31g
    generalize (x 32).v = z32g
    clear hR hlo hdis hS hfin
    have V3 := hU
    have B3 := B3.tr hG
    replace Tq := hG.blk Tq
    replace Cq := hide ((unhide Cq).up hG)
    replace Tr := hG.blk Tr
    replace Cr := hide ((unhide Cr).up hG)
    replace Tf := hG.blk Tf
    replace Cf := hide ((unhide Cf).up hG)
    replace Tm := hG.blk Tm
    replace Cm := hide ((unhide Cm).up hG)
    replace Tz := hG.blk Tz
    replace Cz := hide ((unhide Cz).up hG)
    clear hG
    go_wp2_with fail
    refine wp_region_knd (by kernel_rfl) w V3 [[], [0], [], [1, 2], [3], [4]] [.val [] (fun _ g _ => g.v = .agg #[.bool bb, .slice aob nb capb]), .val [] (fun w g _ => NumD (Xb) (nb) w g.lo g.hi g.v), .val [] (fun _ g _ => g.v = .agg #[.bool bz, .slice aoz nz capz]), .val [] (fun _ g _ => g.v = .int .i64 (-1)), .val [] (fun _ g _ => g.v = .bool true), .val [] (fun _ g _ => g.v = .bool true)] (by kernel_rfl) (by kernel_rfl) rfl ⟨trivial, trivial, trivial, trivial, trivial, trivial, trivial⟩ ⟨fun _ _ _ _ _ h => h, fun _ _ _ _ hb h => h.keep hb, fun _ _ _ _ _ h => h, fun _ _ _ _ _ h => h, fun _ _ _ _ _ h => h, fun _ _ _ _ _ h => h, trivial⟩ ⟨?_, ?_, ?_, ?_, ?_, ?_, trivial⟩ ?_
    · intro x w1 K hU hS hO hd hK
      obtain ⟨k0, k1, -⟩ := cells2 ((B3.tr (Up.tr (up_drew _) (hS.upb rfl))).blk (unhide K3).2)
      clear hd
      refine ⟨?_⟩; simp only [kgoal, putsFrom, depsOf, pu0, pu1, pu2, pu3, pz0, pz1, pz2, pz3, pz4, pz5, pz6, pz7, pz8, Nat.reduceAdd, Nat.reduceBEq, ↓reduceIte, Act.put]
      go_simp
      exact hK _ _ (Up.refl _) rfl
    · intro x w1 K hU hS hO hd hK
      have h0 : (x 0).v = .agg #[.bool bb, .slice aob nb capb] := kval (hd 0 (by decide)).1 rfl
      clear hd
      refine ⟨?_⟩; simp only [kgoal, putsFrom, depsOf, pu0, pu1, pu2, pu3, pz0, pz1, pz2, pz3, pz4, pz5, pz6, pz7, pz8, Nat.reduceAdd, Nat.reduceBEq, ↓reduceIte, Act.put]
      simp only [h0]
      go_simp
      refine (c_rd (M := nb) (((unhide Rb).up hU)) (by omega)).mono ?_
      rintro e w2 ⟨v2, rfl, n2, u2⟩
      exact hK _ _ u2 n2
    · intro x w1 K hU hS hO hd hK
      obtain ⟨k0, k1, -⟩ := cells2 ((Up.tr (up_drew _) (hS.upb rfl)).blk Tz)
      clear hd
      refine ⟨?_⟩; simp only [kgoal, putsFrom, depsOf, pu0, pu1, pu2, pu3, pz0, pz1, pz2, pz3, pz4, pz5, pz6, pz7, pz8, Nat.reduceAdd, Nat.reduceBEq, ↓reduceIte, Act.put]
      go_simp
      exact hK _ _ (Up.refl _) rfl
    · intro x w1 K hU hS hO hd hK
      have h1 : NumD (Xb) (nb) w1 (x 1).lo (x 1).hi (x 1).v := kval (hd 1 (by decide)).1 rfl
      have h2 : (x 2).v = .agg #[.bool bz, .slice aoz nz capz] := kval (hd 2 (by decide)).1 rfl
      clear hd
      refine ⟨?_⟩; simp only [kgoal, putsFrom, depsOf, pu0, pu1, pu2, pu3, pz0, pz1, pz2, pz3, pz4, pz5, pz6, pz7, pz8, Nat.reduceAdd, Nat.reduceBEq, ↓reduceIte, Act.put]
      simp only [h2]
      go_simp
      refine (cmp_rd (M := 35184372087808) (h1.rd (by omega)) (((unhide Cz).rd (M' := 35184372087808) (by omega)).up (Up.tr (up_drew _) (hS.upb rfl)))).mono ?_
      rintro e w2 ⟨v2, rfl, n2, u2⟩
      rw [hz] at n2
      exact hK _ _ u2 n2
    · intro x w1 K hU hS hO hd hK
      have h3 : (x 3).v = .int .i64 (-1) := kval (hd 3 (by decide)).1 rfl
      clear hd
      refine ⟨?_⟩; simp only [kgoal, putsFrom, depsOf, pu0, pu1, pu2, pu3, pz0, pz1, pz2, pz3, pz4, pz5, pz6, pz7, pz8, Nat.reduceAdd, Nat.reduceBEq, ↓reduceIte, Act.put]
      simp only [h3]
      go_simp
      exact hK _ _ (Up.refl _) rfl
    · intro x w1 K hU hS hO hd hK
      have h4 : (x 4).v = .bool true := kval (hd 4 (by decide)).1 rfl
      clear hd
      refine ⟨?_⟩; simp only [kgoal, putsFrom, depsOf, pu0, pu1, pu2, pu3, pz0, pz1, pz2, pz3, pz4, pz5, pz6, pz7, pz8, Nat.reduceAdd, Nat.reduceBEq, ↓reduceIte, Act.put]
      simp only [h4]
      go_simp
      exact hK _ _ (Up.refl _) rfl
    intro x w1 hU hS hR hlo hdis
    have hfin : (x 5).v = .bool true := kval (hR 5 (by decide)) rfl
    have hG := Up.tr (up_drew _) (hS.upb rfl)
    refine ⟨?_⟩; simp only [kgoal, putsFrom, depsOf, pu0, pu1, pu2, pu3, pz0, pz1, pz2, pz3, pz4, pz5, pz6, pz7, pz8, Nat.reduceAdd, Nat.reduceBEq, ↓reduceIte, Act.put]
    rw [hfin]
    generalize (x 0).v = z0h
    generalize (x 1).v = z1h
    generalize (x 2).v = z2h
    generalize (x 3).v = z3h
    generalize (x 4).v = z4h
    clear hR hlo hdis hS hfin
    have V3 := hU
    have B3 := B3.tr hG
    replace Tq := hG.blk Tq
    replace Cq := hide ((unhide Cq).up hG)
    replace Tr := hG.blk Tr
    replace Cr := hide ((unhide Cr).up hG)
    replace Tf := hG.blk Tf
    replace Cf := hide ((unhide Cf).up hG)
    replace Tm := hG.blk Tm
    replace Cm := hide ((unhide Cm).up hG)
    replace Tz := hG.blk Tz
    replace Cz := hide ((unhide Cz).up hG)
    clear hG
    obtain ⟨c0, c1, -⟩ := cells2 (B3.blk (unhide K3).2)
    go_wp2_with fail
    refine (c_rd (M := nb) ((unhide Rb).up V3) (by omega)).mono ?_
    rintro e w5 ⟨v5, rfl, n5, u5⟩
    obtain ⟨bs, aos, ns, caps, es⟩ := (n5.rd (Nat.le_refl _)).agg
    subst es
    have Ts : (w5.alloc (.cells #[.bool bs, .slice aos ns caps] 26)).heap[w5.heap.size]? = some (.cells #[.bool bs, .slice aos ns caps] 26 (0, 0)) := heap_alloc_new w5 _
    have D5 := u5.tr (up_alloc w5 (.cells #[.bool bs, .slice aos ns caps] 26))
    have h5 := Below.size u5
    have Cs0 := hide ((n5.rd (Nat.le_refl _)).up (up_alloc w5 (.cells #[.bool bs, .slice aos ns caps] 26)))
    obtain ⟨k0, k1, -⟩ := cells2 Ts
    clear n5 u5 c0 c1
    go_wp2_with fail
    refine (neg_rd (M := nb) (unhide Cs0) (by omega)).mono ?_
    rintro e w6 ⟨v6, rfl, n6, u6⟩
    obtain ⟨bs2, aos2, ns2, caps2, es⟩ := (n6.rd (Nat.le_refl _)).agg
    subst es
    have Ts0 := u6.blk Ts
    obtain ⟨k0', k1', j0', j1', -⟩ := cells2 Ts0
    obtain ⟨tn, Ts'⟩ := sto_two Ts0 (.bool bs2) (.slice aos2 ns2 caps2)
    have D6 := tn.up (D5.tr u6) h5
    have Cs := hide ((n6.keep (w' := (w6.setCell ⟨w5.heap.size, 0, none⟩ (.bool bs2)).setCell ⟨w5.heap.size, 1, none⟩ (.slice aos2 ns2 caps2)) (fun b h1 h2 => tn.block b (by simp at h1; omega))).rd (Nat.le_refl _))
    replace V3 := V3.tr D6
    replace B3 := B3.tr D6
    replace Tq := D6.blk Tq
    replace Cq := hide ((unhide Cq).up D6)
    replace Tr := D6.blk Tr
    replace Cr := hide ((unhide Cr).up D6)
    replace Tf := D6.blk Tf
    replace Cf := hide ((unhide Cf).up D6)
    replace Tm := D6.blk Tm
    replace Cm := hide ((unhide Cm).up D6)
    replace Tz := D6.blk Tz
    replace Cz := hide ((unhide Cz).up D6)
    replace Ts := Ts'
    clear n6 u6 D5 D6 k0 k1 h5 Ts0 Cs0 tn Ts'
    go_wp2_with fail
    have HS := hide (makes_smallN Xa Xb hb)
    have HC := hide (makes_signsN Xa Xb hb)
    refine wp_region_knd (by kernel_rfl) w V3 [[], [], [0, 1], [2], [3], [4], [5, 4], [4], [6, 7, 4], [8, 4], [4, 9], [10], [11], [11], [12, 13, 11], [14, 11], [11, 15], [16], [17], [18, 17], [17], [19, 20, 17], [21, 17], [17, 22], [23]] [.val [] (fun _ g _ => g.v = .agg #[.bool br, .slice aor nr capr]), .val [] (fun _ g _ => g.v = .agg #[.bool bs2, .slice aos2 ns2 caps2]), .val [] (fun _ g _ => g.v = .int .i64 (-1)), .val [] (fun _ g _ => g.v = .bool true), .val [] (fun _ g _ => g.v = .bool true), .val [] (fun _ g _ => g.v = .agg #[.bool br, .slice aor nr capr]), .val [] (fun w g _ => NumIn (-(rz Xa Xb)) (35184372087808 + 1) w g.lo g.hi g.v), .val [] (fun _ g _ => g.v = .agg #[.bool bs2, .slice aos2 ns2 caps2]), .val [] (fun _ g _ => g.v = .int .i64 (-1)), .val [] (fun _ g _ => g.v = .bool true), .val [] (fun _ g _ => g.v = .bool true), .val [] (fun _ g _ => g.v = .bool true), .val [] (fun _ g _ => g.v = .agg #[.bool bm, .slice aom nm capm]), .val [] (fun _ g _ => g.v = .agg #[.bool bs2, .slice aos2 ns2 caps2]), .val [] (fun _ g _ => g.v = .int .i64 (-1)), .val [] (fun _ g _ => g.v = .bool true), .val [] (fun _ g _ => g.v = .bool true), .val [] (fun _ g _ => g.v = .bool true), .val [] (fun _ g _ => g.v = .agg #[.bool bm, .slice aom nm capm]), .val [] (fun w g _ => NumIn (-(if Xb = 0 then 0 else Int.fmod Xa Xb)) (35184372087808 + 2) w g.lo g.hi g.v), .val [] (fun _ g _ => g.v = .agg #[.bool bs2, .slice aos2 ns2 caps2]), .val [] (fun _ g _ => g.v = .int .i64 (-1)), .val [] (fun _ g _ => g.v = .bool true), .val [] (fun _ g _ => g.v = .bool true), .val [] (fun _ g _ => g.v = .bool true)] (by kernel_rfl) (by kernel_rfl) rfl ⟨trivial, trivial, trivial, trivial, trivial, trivial, trivial, trivial, trivial, trivial, trivial, trivial, trivial, trivial, trivial, trivial, trivial, trivial, trivial, trivial, trivial, trivial, trivial, trivial, trivial, trivial⟩ ⟨fun _ _ _ _ _ h => h, fun _ _ _ _ _ h => h, fun _ _ _ _ _ h => h, fun _ _ _ _ _ h => h, fun _ _ _ _ _ h => h, fun _ _ _ _ _ h => h, fun _ _ _ _ hb h => h.keep hb, fun _ _ _ _ _ h => h, fun _ _ _ _ _ h => h, fun _ _ _ _ _ h => h, fun _ _ _ _ _ h => h, fun _ _ _ _ _ h => h, fun _ _ _ _ _ h => h, fun _ _ _ _ _ h => h, fun _ _ _ _ _ h => h, fun _ _ _ _ _ h => h, fun _ _ _ _ _ h => h, fun _ _ _ _ _ h => h, fun _ _ _ _ _ h => h, fun _ _ _ _ hb h => h.keep hb, fun _ _ _ _ _ h => h, fun _ _ _ _ _ h => h, fun _ _ _ _ _ h => h, fun _ _ _ _ _ h => h, fun _ _ _ _ _ h => h, trivial⟩ ⟨?_, ?_, ?_, ?_, ?_, ?_, ?_, ?_, ?_, ?_, ?_, ?_, ?_, ?_, ?_, ?_, ?_, ?_, ?_, ?_, ?_, ?_, ?_, ?_, ?_, trivial⟩ ?_
    · intro x w1 K hU hS hO hd hK
      obtain ⟨k0, k1, -⟩ := cells2 ((Up.tr (up_drew _) (hS.upb rfl)).blk Tr)
      clear hd
      refine ⟨?_⟩; simp only [kgoal, putsFrom, depsOf, pu0, pu1, pu2, pu3, pz0, pz1, pz2, pz3, pz4, pz5, pz6, pz7, pz8, Nat.reduceAdd, Nat.reduceBEq, ↓reduceIte, Act.put]
      go_simp
      exact hK _ _ (Up.refl _) rfl
    · intro x w1 K hU hS hO hd hK
      obtain ⟨k0, k1, -⟩ := cells2 ((Up.tr (up_drew _) (hS.upb rfl)).blk Ts)
      clear hd
      refine ⟨?_⟩; simp only [kgoal, putsFrom, depsOf, pu0, pu1, pu2, pu3, pz0, pz1, pz2, pz3, pz4, pz5, pz6, pz7, pz8, Nat.reduceAdd, Nat.reduceBEq, ↓reduceIte, Act.put]
      go_simp
      exact hK _ _ (Up.refl _) rfl
    · intro x w1 K hU hS hO hd hK
      have h0 : (x 0).v = .agg #[.bool br, .slice aor nr capr] := kval (hd 0 (by decide)).1 rfl
      have h1 : (x 1).v = .agg #[.bool bs2, .slice aos2 ns2 caps2] := kval (hd 1 (by decide)).1 rfl
      clear hd
      refine ⟨?_⟩; simp only [kgoal, putsFrom, depsOf, pu0, pu1, pu2, pu3, pz0, pz1, pz2, pz3, pz4, pz5, pz6, pz7, pz8, Nat.reduceAdd, Nat.reduceBEq, ↓reduceIte, Act.put]
      simp only [h0, h1]
      go_simp
      refine (cmp_rd (M := 70368744175621) (((unhide Cr).rd (M' := 70368744175621) (by omega)).up (Up.tr (up_drew _) (hS.upb rfl))) (((unhide Cs).mono (M' := 70368744175621) (by omega)).up (Up.tr (up_drew _) (hS.upb rfl)))).mono ?_
      rintro e w2 ⟨v2, rfl, n2, u2⟩
      rw [(unhide HS).1] at n2
      exact hK _ _ u2 n2
    · intro x w1 K hU hS hO hd hK
      have h2 : (x 2).v = .int .i64 (-1) := kval (hd 2 (by decide)).1 rfl
      clear hd
      refine ⟨?_⟩; simp only [kgoal, putsFrom, depsOf, pu0, pu1, pu2, pu3, pz0, pz1, pz2, pz3, pz4, pz5, pz6, pz7, pz8, Nat.reduceAdd, Nat.reduceBEq, ↓reduceIte, Act.put]
      simp only [h2]
      go_simp
      exact hK _ _ (Up.refl _) rfl
    · intro x w1 K hU hS hO hd hK
      have h3 : (x 3).v = .bool true := kval (hd 3 (by decide)).1 rfl
      clear hd
      refine ⟨?_⟩; simp only [kgoal, putsFrom, depsOf, pu0, pu1, pu2, pu3, pz0, pz1, pz2, pz3, pz4, pz5, pz6, pz7, pz8, Nat.reduceAdd, Nat.reduceBEq, ↓reduceIte, Act.put]
      simp only [h3]
      go_simp
      exact hK _ _ (Up.refl _) rfl
    · intro x w1 K hU hS hO hd hK
      have h4 : (x 4).v = .bool true := kval (hd 4 (by decide)).1 rfl
      obtain ⟨k0, k1, -⟩ := cells2 ((Up.tr (up_drew _) (hS.upb rfl)).blk Tr)
      clear hd
      refine ⟨?_⟩; simp only [kgoal, putsFrom, depsOf, pu0, pu1, pu2, pu3, pz0, pz1, pz2, pz3, pz4, pz5, pz6, pz7, pz8, Nat.reduceAdd, Nat.reduceBEq, ↓reduceIte, Act.put]
      simp only [h4]
      rw [if_pos (by rfl)]
      go_simp
      exact hK _ _ (Up.refl _) rfl
    · intro x w1 K hU hS hO hd hK
      have h5 : (x 5).v = .agg #[.bool br, .slice aor nr capr] := kval (hd 5 (by decide)).1 rfl
      have h4 : (x 4).v = .bool true := kval (hd 4 (by decide)).1 rfl
      clear hd
      refine ⟨?_⟩; simp only [kgoal, putsFrom, depsOf, pu0, pu1, pu2, pu3, pz0, pz1, pz2, pz3, pz4, pz5, pz6, pz7, pz8, Nat.reduceAdd, Nat.reduceBEq, ↓reduceIte, Act.put]
      simp only [h5, h4]
      rw [if_pos (by rfl)]
      go_simp
      refine (neg_rd (M := 35184372087808 + 1) (((unhide Cr).rd (M' := 35184372087808 + 1) (by omega)).up (Up.tr (up_drew _) (hS.upb rfl))) (by omega)).mono ?_
      rintro e w2 ⟨v2, rfl, n2, u2⟩
      exact hK _ _ u2 n2
    · intro x w1 K hU hS hO hd hK
      have h4 : (x 4).v = .bool true := kval (hd 4 (by decide)).1 rfl
      obtain ⟨k0, k1, -⟩ := cells2 ((Up.tr (up_drew _) (hS.upb rfl)).blk Ts)
      clear hd
      refine ⟨?_⟩; simp only [kgoal, putsFrom, depsOf, pu0, pu1, pu2, pu3, pz0, pz1, pz2, pz3, pz4, pz5, pz6, pz7, pz8, Nat.reduceAdd, Nat.reduceBEq, ↓reduceIte, Act.put]
      simp only [h4]
      rw [if_pos (by rfl)]
      go_simp
      exact hK _ _ (Up.refl _) rfl
    · intro x w1 K hU hS hO hd hK
      have h6 : NumIn (-(rz Xa Xb)) (35184372087808 + 1) w1 (x 6).lo (x 6).hi (x 6).v := kval (hd 6 (by decide)).1 rfl
      have h7 : (x 7).v = .agg #[.bool bs2, .slice aos2 ns2 caps2] := kval (hd 7 (by decide)).1 rfl
      have h4 : (x 4).v = .bool true := kval (hd 4 (by decide)).1 rfl
      clear hd
      refine ⟨?_⟩; simp only [kgoal, putsFrom, depsOf, pu0, pu1, pu2, pu3, pz0, pz1, pz2, pz3, pz4, pz5, pz6, pz7, pz8, Nat.reduceAdd, Nat.reduceBEq, ↓reduceIte, Act.put]
      simp only [h7, h4]
      rw [if_pos (by rfl)]
      go_simp
      refine (cmp_rd (M := 70368744175621) (h6.rd (by omega)) (((unhide Cs).mono (M' := 70368744175621) (by omega)).up (Up.tr (up_drew _) (hS.upb rfl)))).mono ?_
      rintro e w2 ⟨v2, rfl, n2, u2⟩
      rw [(unhide HS).2.1] at n2
      exact hK _ _ u2 n2
    · intro x w1 K hU hS hO hd hK
      have h8 : (x 8).v = .int .i64 (-1) := kval (hd 8 (by decide)).1 rfl
      have h4 : (x 4).v = .bool true := kval (hd 4 (by decide)).1 rfl
      clear hd
      refine ⟨?_⟩; simp only [kgoal, putsFrom, depsOf, pu0, pu1, pu2, pu3, pz0, pz1, pz2, pz3, pz4, pz5, pz6, pz7, pz8, Nat.reduceAdd, Nat.reduceBEq, ↓reduceIte, Act.put]
      simp only [h8, h4]
      rw [if_pos (by rfl)]
      go_simp
      exact hK _ _ (Up.refl _) rfl
    · intro x w1 K hU hS hO hd hK
      have h4 : (x 4).v = .bool true := kval (hd 4 (by decide)).1 rfl
      have h9 : (x 9).v = .bool true := kval (hd 9 (by decide)).1 rfl
      clear hd
      refine ⟨?_⟩; simp only [kgoal, putsFrom, depsOf, pu0, pu1, pu2, pu3, pz0, pz1, pz2, pz3, pz4, pz5, pz6, pz7, pz8, Nat.reduceAdd, Nat.reduceBEq, ↓reduceIte, Act.put]
      simp only [h4, h9]
      go_simp
      exact hK _ _ (Up.refl _) rfl
    · intro x w1 K hU hS hO hd hK
      have h10 : (x 10).v = .bool true := kval (hd 10 (by decide)).1 rfl
      clear hd
      refine ⟨?_⟩; simp only [kgoal, putsFrom, depsOf, pu0, pu1, pu2, pu3, pz0, pz1, pz2, pz3, pz4, pz5, pz6, pz7, pz8, Nat.reduceAdd, Nat.reduceBEq, ↓reduceIte, Act.put]
      simp only [h10]
      go_simp
      exact hK _ _ (Up.refl _) rfl
    · intro x w1 K hU hS hO hd hK
      have h11 : (x 11).v = .bool true := kval (hd 11 (by decide)).1 rfl
      obtain ⟨k0, k1, -⟩ := cells2 ((Up.tr (up_drew _) (hS.upb rfl)).blk Tm)
      clear hd
      refine ⟨?_⟩; simp only [kgoal, putsFrom, depsOf, pu0, pu1, pu2, pu3, pz0, pz1, pz2, pz3, pz4, pz5, pz6, pz7, pz8, Nat.reduceAdd, Nat.reduceBEq, ↓reduceIte, Act.put]
      simp only [h11]
      rw [if_pos (by rfl)]
      go_simp
      exact hK _ _ (Up.refl _) rfl
    · intro x w1 K hU hS hO hd hK
      have h11 : (x 11).v = .bool true := kval (hd 11 (by decide)).1 rfl
      obtain ⟨k0, k1, -⟩ := cells2 ((Up.tr (up_drew _) (hS.upb rfl)).blk Ts)
      clear hd
      refine ⟨?_⟩; simp only [kgoal, putsFrom, depsOf, pu0, pu1, pu2, pu3, pz0, pz1, pz2, pz3, pz4, pz5, pz6, pz7, pz8, Nat.reduceAdd, Nat.reduceBEq, ↓reduceIte, Act.put]
      simp only [h11]
      rw [if_pos (by rfl)]
      go_simp
      exact hK _ _ (Up.refl _) rfl
    · intro x w1 K hU hS hO hd hK
      have h12 : (x 12).v = .agg #[.bool bm, .slice aom nm capm] := kval (hd 12 (by decide)).1 rfl
      have h13 : (x 13).v = .agg #[.bool bs2, .slice aos2 ns2 caps2] := kval (hd 13 (by decide)).1 rfl
      have h11 : (x 11).v = .bool true := kval (hd 11 (by decide)).1 rfl
      clear hd
      refine ⟨?_⟩; simp only [kgoal, putsFrom, depsOf, pu0, pu1, pu2, pu3, pz0, pz1, pz2, pz3, pz4, pz5, pz6, pz7, pz8, Nat.reduceAdd, Nat.reduceBEq, ↓reduceIte, Act.put]
      simp only [h12, h13, h11]
      rw [if_pos (by rfl)]
      go_simp
      refine (cmp_rd (M := 70368744175621) (((unhide Cm).rd (M' := 70368744175621) (by omega)).up (Up.tr (up_drew _) (hS.upb rfl))) (((unhide Cs).mono (M' := 70368744175621) (by omega)).up (Up.tr (up_drew _) (hS.upb rfl)))).mono ?_
      rintro e w2 ⟨v2, rfl, n2, u2⟩
      rw [(unhide HS).2.2.1] at n2
      exact hK _ _ u2 n2
    · intro x w1 K hU hS hO hd hK
      have h14 : (x 14).v = .int .i64 (-1) := kval (hd 14 (by decide)).1 rfl
      have h11 : (x 11).v = .bool true := kval (hd 11 (by decide)).1 rfl
      clear hd
      refine ⟨?_⟩; simp only [kgoal, putsFrom, depsOf, pu0, pu1, pu2, pu3, pz0, pz1, pz2, pz3, pz4, pz5, pz6, pz7, pz8, Nat.reduceAdd, Nat.reduceBEq, ↓reduceIte, Act.put]
      simp only [h14, h11]
      rw [if_pos (by rfl)]
      go_simp
      exact hK _ _ (Up.refl _) rfl
    · intro x w1 K hU hS hO hd hK
      have h11 : (x 11).v = .bool true := kval (hd 11 (by decide)).1 rfl
      have h15 : (x 15).v = .bool true := kval (hd 15 (by decide)).1 rfl
      clear hd
      refine ⟨?_⟩; simp only [kgoal, putsFrom, depsOf, pu0, pu1, pu2, pu3, pz0, pz1, pz2, pz3, pz4, pz5, pz6, pz7, pz8, Nat.reduceAdd, Nat.reduceBEq, ↓reduceIte, Act.put]
      simp only [h11, h15]
      go_simp
      exact hK _ _ (Up.refl _) rfl
    · intro x w1 K hU hS hO hd hK
      have h16 : (x 16).v = .bool true := kval (hd 16 (by decide)).1 rfl
      clear hd
      refine ⟨?_⟩; simp only [kgoal, putsFrom, depsOf, pu0, pu1, pu2, pu3, pz0, pz1, pz2, pz3, pz4, pz5, pz6, pz7, pz8, Nat.reduceAdd, Nat.reduceBEq, ↓reduceIte, Act.put]
      simp only [h16]
      go_simp
      exact hK _ _ (Up.refl _) rfl
    · intro x w1 K hU hS hO hd hK
      have h17 : (x 17).v = .bool true := kval (hd 17 (by decide)).1 rfl
      obtain ⟨k0, k1, -⟩ := cells2 ((Up.tr (up_drew _) (hS.upb rfl)).blk Tm)
      clear hd
      refine ⟨?_⟩; simp only [kgoal, putsFrom, depsOf, pu0, pu1, pu2, pu3, pz0, pz1, pz2, pz3, pz4, pz5, pz6, pz7, pz8, Nat.reduceAdd, Nat.reduceBEq, ↓reduceIte, Act.put]
      simp only [h17]
      rw [if_pos (by rfl)]
      go_simp
      exact hK _ _ (Up.refl _) rfl
    · intro x w1 K hU hS hO hd hK
      have h18 : (x 18).v = .agg #[.bool bm, .slice aom nm capm] := kval (hd 18 (by decide)).1 rfl
      have h17 : (x 17).v = .bool true := kval (hd 17 (by decide)).1 rfl
      clear hd
      refine ⟨?_⟩; simp only [kgoal, putsFrom, depsOf, pu0, pu1, pu2, pu3, pz0, pz1, pz2, pz3, pz4, pz5, pz6, pz7, pz8, Nat.reduceAdd, Nat.reduceBEq, ↓reduceIte, Act.put]
      simp only [h18, h17]
      rw [if_pos (by rfl)]
      go_simp
      refine (neg_rd (M := 35184372087808 + 2) (((unhide Cm).rd (M' := 35184372087808 + 2) (by omega)).up (Up.tr (up_drew _) (hS.upb rfl))) (by omega)).mono ?_
      rintro e w2 ⟨v2, rfl, n2, u2⟩
      exact hK _ _ u2 n2
    · intro x w1 K hU hS hO hd hK
      have h17 : (x 17).v = .bool true := kval (hd 17 (by decide)).1 rfl
      obtain ⟨k0, k1, -⟩ := cells2 ((Up.tr (up_drew _) (hS.upb rfl)).blk Ts)
      clear hd
      refine ⟨?_⟩; simp only [kgoal, putsFrom, depsOf, pu0, pu1, pu2, pu3, pz0, pz1, pz2, pz3, pz4, pz5, pz6, pz7, pz8, Nat.reduceAdd, Nat.reduceBEq, ↓reduceIte, Act.put]
      simp only [h17]
      rw [if_pos (by rfl)]
      go_simp
      exact hK _ _ (Up.refl _) rfl
    · intro x w1 K hU hS hO hd hK
      have h19 : NumIn (-(if Xb = 0 then 0 else Int.fmod Xa Xb)) (35184372087808 + 2) w1 (x 19).lo (x 19).hi (x 19).v := kval (hd 19 (by decide)).1 rfl
      have h20 : (x 20).v = .agg #[.bool bs2, .slice aos2 ns2 caps2] := kval (hd 20 (by decide)).1 rfl
      have h17 : (x 17).v = .bool true := kval (hd 17 (by decide)).1 rfl
      clear hd
      refine ⟨?_⟩; simp only [kgoal, putsFrom, depsOf, pu0, pu1, pu2, pu3, pz0, pz1, pz2, pz3, pz4, pz5, pz6, pz7, pz8, Nat.reduceAdd, Nat.reduceBEq, ↓reduceIte, Act.put]
      simp only [h20, h17]
      rw [if_pos (by rfl)]
      go_simp
      refine (cmp_rd (M := 70368744175621) (h19.rd (by omega)) (((unhide Cs).mono (M' := 70368744175621) (by omega)).up (Up.tr (up_drew _) (hS.upb rfl)))).mono ?_
      rintro e w2 ⟨v2, rfl, n2, u2⟩
      rw [(unhide HS).2.2.2] at n2
      exact hK _ _ u2 n2
    · intro x w1 K hU hS hO hd hK
      have h21 : (x 21).v = .int .i64 (-1) := kval (hd 21 (by decide)).1 rfl
      have h17 : (x 17).v = .bool true := kval (hd 17 (by decide)).1 rfl
      clear hd
      refine ⟨?_⟩; simp only [kgoal, putsFrom, depsOf, pu0, pu1, pu2, pu3, pz0, pz1, pz2, pz3, pz4, pz5, pz6, pz7, pz8, Nat.reduceAdd, Nat.reduceBEq, ↓reduceIte, Act.put]
      simp only [h21, h17]
      rw [if_pos (by rfl)]
      go_simp
      exact hK _ _ (Up.refl _) rfl
    · intro x w1 K hU hS hO hd hK
      have h17 : (x 17).v = .bool true := kval (hd 17 (by decide)).1 rfl
      have h22 : (x 22).v = .bool true := kval (hd 22 (by decide)).1 rfl
      clear hd
      refine ⟨?_⟩; simp only [kgoal, putsFrom, depsOf, pu0, pu1, pu2, pu3, pz0, pz1, pz2, pz3, pz4, pz5, pz6, pz7, pz8, Nat.reduceAdd, Nat.reduceBEq, ↓reduceIte, Act.put]
      simp only [h17, h22]
      go_simp
      exact hK _ _ (Up.refl _) rfl
    · intro x w1 K hU hS hO hd hK
      have h23 : (x 23).v = .bool true := kval (hd 23 (by decide)).1 rfl
      clear hd
      refine ⟨?_⟩; simp only [kgoal, putsFrom, depsOf, pu0, pu1, pu2, pu3, pz0, pz1, pz2, pz3, pz4, pz5, pz6, pz7, pz8, Nat.reduceAdd, Nat.reduceBEq, ↓reduceIte, Act.put]
      simp only [h23]
      go_simp
      exact hK _ _ (Up.refl _) rfl
    intro x w1 hU hS hR hlo hdis
    have hfin : (x 24).v = .bool true := kval (hR 24 (by decide)) rfl
    have hG := Up.tr (up_drew _) (hS.upb rfl)
    refine ⟨?_⟩; simp only [kgoal, putsFrom, depsOf, pu0, pu1, pu2, pu3, pz0, pz1, pz2, pz3, pz4, pz5, pz6, pz7, pz8, Nat.reduceAdd, Nat.reduceBEq, ↓reduceIte, Act.put]
    rw [hfin]
    generalize (x 0).v = z0k
    generalize (x 1).v = z1k
    generalize (x 2).v = z2k
    generalize (x 3).v = z3k
    generalize (x 4).v = z4k
    generalize (x 5).v = z5k
    generalize (x 6).v = z6k
    generalize (x 7).v = z7k
    generalize (x 8).v = z8k
    generalize (x 9).v = z9k
    generalize (x 10).v = z10k
    generalize (x 11).v = z11k
    generalize (x 12).v = z12k
    generalize (x 13).v = z13k
    generalize (x 14).v = z14k
    generalize (x 15).v = z15k
    generalize (x 16).v = z16k
    generalize (x 17).v = z17k
    generalize (x 18).v = z18k
    generalize (x 19).v = z19k
    generalize (x 20).v = z20k
    generalize (x 21).v = z21k
    generalize (x 22).v = z22k
    generalize (x 23).v = z23k
    clear hR hlo hdis hS hfin
    have V3 := hU
    have B3 := B3.tr hG
    replace Tq := hG.blk Tq
    replace Cq := hide ((unhide Cq).up hG)
    replace Tr := hG.blk Tr
    replace Cr := hide ((unhide Cr).up hG)
    replace Tf := hG.blk Tf
    replace Cf := hide ((unhide Cf).up hG)
    replace Tm := hG.blk Tm
    replace Cm := hide ((unhide Cm).up hG)
    replace Tz := hG.blk Tz
    replace Cz := hide ((unhide Cz).up hG)
    replace Ts := hG.blk Ts
    replace Cs := hide ((unhide Cs).up hG)
    clear hG
    go_wp2_with fail
    rcases unhide HC with ⟨hR1, hM1 | hM1⟩ | ⟨sR, hs1, hs2, hR1, hR2, hM1 | hM1⟩
    · refine wp_region_knd (by kernel_rfl) w V3 [[], [], [0, 1], [2], [3], [4], [4], [5, 6, 4], [4], [8, 4], [4], [9, 10, 4], [7, 11, 4], [4, 12], [13], [14], [14], [15, 16, 14], [17, 14], [18, 14], [19], [19], [20, 21, 19], [22, 19], [19], [23, 24, 19], [19, 25, 14], [14, 26], [27]] [.val [] (fun _ g _ => g.v = .agg #[.bool br, .slice aor nr capr]), .val [] (fun _ g _ => g.v = .agg #[.bool bz, .slice aoz nz capz]), .val [] (fun _ g _ => g.v = .int .i64 (0)), .val [] (fun _ g _ => g.v = .bool true), .val [] (fun _ g _ => g.v = .bool true), .val [] (fun _ g _ => g.v = undef), .val [] (fun _ g _ => g.v = undef), .val [] (fun _ g _ => g.v = undef), .val [] (fun _ g _ => g.v = undef), .val [] (fun _ g _ => g.v = undef), .val [] (fun _ g _ => g.v = undef), .val [] (fun _ g _ => g.v = undef), .val [] (fun _ g _ => g.v = undef), .val [] (fun _ g _ => g.v = .bool true), .val [] (fun _ g _ => g.v = .bool true), .val [] (fun _ g _ => g.v = .agg #[.bool bm, .slice aom nm capm]), .val [] (fun _ g _ => g.v = .agg #[.bool bz, .slice aoz nz capz]), .val [] (fun _ g _ => g.v = .int .i64 (0)), .val [] (fun _ g _ => g.v = .bool true), .val [] (fun _ g _ => g.v = .bool true), .val [] (fun _ g _ => g.v = undef), .val [] (fun _ g _ => g.v = undef), .val [] (fun _ g _ => g.v = undef), .val [] (fun _ g _ => g.v = undef), .val [] (fun _ g _ => g.v = undef), .val [] (fun _ g _ => g.v = undef), .val [] (fun _ g _ => g.v = .bool true), .val [] (fun _ g _ => g.v = .bool true), .val [] (fun _ g _ => g.v = .bool true)] (by kernel_rfl) (by kernel_rfl) rfl ⟨trivial, trivial, trivial, trivial, trivial, trivial, trivial, trivial, trivial, trivial, trivial, trivial, trivial, trivial, trivial, trivial, trivial, trivial, trivial, trivial, trivial, trivial, trivial, trivial, trivial, trivial, trivial, trivial, trivial, trivial⟩ ⟨fun _ _ _ _ _ h => h, fun _ _ _ _ _ h => h, fun _ _ _ _ _ h => h, fun _ _ _ _ _ h => h, fun _ _ _ _ _ h => h, fun _ _ _ _ _ h => h, fun _ _ _ _ _ h => h, fun _ _ _ _ _ h => h, fun _ _ _ _ _ h => h, fun _ _ _ _ _ h => h, fun _ _ _ _ _ h => h, fun _ _ _ _ _ h => h, fun _ _ _ _ _ h => h, fun _ _ _ _ _ h => h, fun _ _ _ _ _ h => h, fun _ _ _ _ _ h => h, fun _ _ _ _ _ h => h, fun _ _ _ _ _ h => h, fun _ _ _ _ _ h => h, fun _ _ _ _ _ h => h, fun _ _ _ _ _ h => h, fun _ _ _ _ _ h => h, fun _ _ _ _ _ h => h, fun _ _ _ _ _ h => h, fun _ _ _ _ _ h => h, fun _ _ _ _ _ h => h, fun _ _ _ _ _ h => h, fun _ _ _ _ _ h => h, fun _ _ _ _ _ h => h, trivial⟩ ⟨?_, ?_, ?_, ?_, ?_, ?_, ?_, ?_, ?_, ?_, ?_, ?_, ?_, ?_, ?_, ?_, ?_, ?_, ?_, ?_, ?_, ?_, ?_, ?_, ?_, ?_, ?_, ?_, ?_, trivial⟩ ?_
      · intro x w1 K hU hS hO hd hK
        obtain ⟨k0, k1, -⟩ := cells2 ((Up.tr (up_drew _) (hS.upb rfl)).blk Tr)
        clear hd
        refine ⟨?_⟩; simp only [kgoal, putsFrom, depsOf, pu0, pu1, pu2, pu3, pz0, pz1, pz2, pz3, pz4, pz5, pz6, pz7, pz8, Nat.reduceAdd, Nat.reduceBEq, ↓reduceIte, Act.put]
        go_simp
        exact hK _ _ (Up.refl _) rfl
      · intro x w1 K hU hS hO hd hK
        obtain ⟨k0, k1, -⟩ := cells2 ((Up.tr (up_drew _) (hS.upb rfl)).blk Tz)
        clear hd
        refine ⟨?_⟩; simp only [kgoal, putsFrom, depsOf, pu0, pu1, pu2, pu3, pz0, pz1, pz2, pz3, pz4, pz5, pz6, pz7, pz8, Nat.reduceAdd, Nat.reduceBEq, ↓reduceIte, Act.put]
        go_simp
        exact hK _ _ (Up.refl _) rfl
      · intro x w1 K hU hS hO hd hK
        have h0 : (x 0).v = .agg #[.bool br, .slice aor nr capr] := kval (hd 0 (by decide)).1 rfl
        have h1 : (x 1).v = .agg #[.bool bz, .slice aoz nz capz] := kval (hd 1 (by decide)).1 rfl
        clear hd
        refine ⟨?_⟩; simp only [kgoal, putsFrom, depsOf, pu0, pu1, pu2, pu3, pz0, pz1, pz2, pz3, pz4, pz5, pz6, pz7, pz8, Nat.reduceAdd, Nat.reduceBEq, ↓reduceIte, Act.put]
        simp only [h0, h1]
        go_simp
        refine (cmp_rd (M := 70368744175621) (((unhide Cr).rd (M' := 70368744175621) (by omega)).up (Up.tr (up_drew _) (hS.upb rfl))) (((unhide Cz).rd (M' := 70368744175621) (by omega)).up (Up.tr (up_drew _) (hS.upb rfl)))).mono ?_
        rintro e w2 ⟨v2, rfl, n2, u2⟩
        rw [hR1] at n2
        exact hK _ _ u2 n2
      · intro x w1 K hU hS hO hd hK
        have h2 : (x 2).v = .int .i64 (0) := kval (hd 2 (by decide)).1 rfl
        clear hd
        refine ⟨?_⟩; simp only [kgoal, putsFrom, depsOf, pu0, pu1, pu2, pu3, pz0, pz1, pz2, pz3, pz4, pz5, pz6, pz7, pz8, Nat.reduceAdd, Nat.reduceBEq, ↓reduceIte, Act.put]
        simp only [h2]
        go_simp
        exact hK _ _ (Up.refl _) rfl
      · intro x w1 K hU hS hO hd hK
        have h3 : (x 3).v = .bool true := kval (hd 3 (by decide)).1 rfl
        clear hd
        refine ⟨?_⟩; simp only [kgoal, putsFrom, depsOf, pu0, pu1, pu2, pu3, pz0, pz1, pz2, pz3, pz4, pz5, pz6, pz7, pz8, Nat.reduceAdd, Nat.reduceBEq, ↓reduceIte, Act.put]
        simp only [h3]
        go_simp
        exact hK _ _ (Up.refl _) rfl
      · intro x w1 K hU hS hO hd hK
        have h4 : (x 4).v = .bool true := kval (hd 4 (by decide)).1 rfl
        clear hd
        refine ⟨?_⟩; simp only [kgoal, putsFrom, depsOf, pu0, pu1, pu2, pu3, pz0, pz1, pz2, pz3, pz4, pz5, pz6, pz7, pz8, Nat.reduceAdd, Nat.reduceBEq, ↓reduceIte, Act.put]
        simp only [h4]
        rw [if_neg (by intro h; cases h)]
        exact hK _ _ (Up.refl _) rfl
      · intro x w1 K hU hS hO hd hK
        have h4 : (x 4).v = .bool true := kval (hd 4 (by decide)).1 rfl
        clear hd
        refine ⟨?_⟩; simp only [kgoal, putsFrom, depsOf, pu0, pu1, pu2, pu3, pz0, pz1, pz2, pz3, pz4, pz5, pz6, pz7, pz8, Nat.reduceAdd, Nat.reduceBEq, ↓reduceIte, Act.put]
        simp only [h4]
        rw [if_neg (by intro h; cases h)]
        exact hK _ _ (Up.refl _) rfl
      · intro x w1 K hU hS hO hd hK
        have h5 : (x 5).v = undef := kval (hd 5 (by decide)).1 rfl
        have h6 : (x 6).v = undef := kval (hd 6 (by decide)).1 rfl
        have h4 : (x 4).v = .bool true := kval (hd 4 (by decide)).1 rfl
        clear hd
        refine ⟨?_⟩; simp only [kgoal, putsFrom, depsOf, pu0, pu1, pu2, pu3, pz0, pz1, pz2, pz3, pz4, pz5, pz6, pz7, pz8, Nat.reduceAdd, Nat.reduceBEq, ↓reduceIte, Act.put]
        simp only [h5, h6, h4]
        rw [if_neg (by intro h; cases h)]
        exact hK _ _ (Up.refl _) rfl
      · intro x w1 K hU hS hO hd hK
        have h4 : (x 4).v = .bool true := kval (hd 4 (by decide)).1 rfl
        clear hd
        refine ⟨?_⟩; simp only [kgoal, putsFrom, depsOf, pu0, pu1, pu2, pu3, pz0, pz1, pz2, pz3, pz4, pz5, pz6, pz7, pz8, Nat.reduceAdd, Nat.reduceBEq, ↓reduceIte, Act.put]
        simp only [h4]
        rw [if_neg (by intro h; cases h)]
        exact hK _ _ (Up.refl _) rfl
      · intro x w1 K hU hS hO hd hK
        have h8 : (x 8).v = undef := kval (hd 8 (by decide)).1 rfl
        have h4 : (x 4).v = .bool true := kval (hd 4 (by decide)).1 rfl
        clear hd
        refine ⟨?_⟩; simp only [kgoal, putsFrom, depsOf, pu0, pu1, pu2, pu3, pz0, pz1, pz2, pz3, pz4, pz5, pz6, pz7, pz8, Nat.reduceAdd, Nat.reduceBEq, ↓reduceIte, Act.put]
        simp only [h8, h4]
        rw [if_neg (by intro h; cases h)]
        exact hK _ _ (Up.refl _) rfl
      · intro x w1 K hU hS hO hd hK
        have h4 : (x 4).v = .bool true := kval (hd 4 (by decide)).1 rfl
        clear hd
        refine ⟨?_⟩; simp only [kgoal, putsFrom, depsOf, pu0, pu1, pu2, pu3, pz0, pz1, pz2, pz3, pz4, pz5, pz6, pz7, pz8, Nat.reduceAdd, Nat.reduceBEq, ↓reduceIte, Act.put]
        simp only [h4]
        rw [if_neg (by intro h; cases h)]
        exact hK _ _ (Up.refl _) rfl
      · intro x w1 K hU hS hO hd hK
        have h9 : (x 9).v = undef := kval (hd 9 (by decide)).1 rfl
        have h10 : (x 10).v = undef := kval (hd 10 (by decide)).1 rfl
        have h4 : (x 4).v = .bool true := kval (hd 4 (by decide)).1 rfl
        clear hd
        refine ⟨?_⟩; simp only [kgoal, putsFrom, depsOf, pu0, pu1, pu2, pu3, pz0, pz1, pz2, pz3, pz4, pz5, pz6, pz7, pz8, Nat.reduceAdd, Nat.reduceBEq, ↓reduceIte, Act.put]
        simp only [h9, h10, h4]
        rw [if_neg (by intro h; cases h)]
        exact hK _ _ (Up.refl _) rfl
      · intro x w1 K hU hS hO hd hK
        have h7 : (x 7).v = undef := kval (hd 7 (by decide)).1 rfl
        have h11 : (x 11).v = undef := kval (hd 11 (by decide)).1 rfl
        have h4 : (x 4).v = .bool true := kval (hd 4 (by decide)).1 rfl
        clear hd
        refine ⟨?_⟩; simp only [kgoal, putsFrom, depsOf, pu0, pu1, pu2, pu3, pz0, pz1, pz2, pz3, pz4, pz5, pz6, pz7, pz8, Nat.reduceAdd, Nat.reduceBEq, ↓reduceIte, Act.put]
        simp only [h7, h11, h4]
        rw [if_neg (by intro h; cases h)]
        exact hK _ _ (Up.refl _) rfl
      · intro x w1 K hU hS hO hd hK
        have h4 : (x 4).v = .bool true := kval (hd 4 (by decide)).1 rfl
        have h12 : (x 12).v = undef := kval (hd 12 (by decide)).1 rfl
        clear hd
        refine ⟨?_⟩; simp only [kgoal, putsFrom, depsOf, pu0, pu1, pu2, pu3, pz0, pz1, pz2, pz3, pz4, pz5, pz6, pz7, pz8, Nat.reduceAdd, Nat.reduceBEq, ↓reduceIte, Act.put]
        simp only [h4, h12]
        go_simp
        exact hK _ _ (Up.refl _) rfl
      · intro x w1 K hU hS hO hd hK
        have h13 : (x 13).v = .bool true := kval (hd 13 (by decide)).1 rfl
        clear hd
        refine ⟨?_⟩; simp only [kgoal, putsFrom, depsOf, pu0, pu1, pu2, pu3, pz0, pz1, pz2, pz3, pz4, pz5, pz6, pz7, pz8, Nat.reduceAdd, Nat.reduceBEq, ↓reduceIte, Act.put]
        simp only [h13]
        go_simp
        exact hK _ _ (Up.refl _) rfl
      · intro x w1 K hU hS hO hd hK
        have h14 : (x 14).v = .bool true := kval (hd 14 (by decide)).1 rfl
        obtain ⟨k0, k1, -⟩ := cells2 ((Up.tr (up_drew _) (hS.upb rfl)).blk Tm)
        clear hd
        refine ⟨?_⟩; simp only [kgoal, putsFrom, depsOf, pu0, pu1, pu2, pu3, pz0, pz1, pz2, pz3, pz4, pz5, pz6, pz7, pz8, Nat.reduceAdd, Nat.reduceBEq, ↓reduceIte, Act.put]
        simp only [h14]
        rw [if_pos (by rfl)]
        go_simp
        exact hK _ _ (Up.refl _) rfl
      · intro x w1 K hU hS hO hd hK
        have h14 : (x 14).v = .bool true := kval (hd 14 (by decide)).1 rfl
        obtain ⟨k0, k1, -⟩ := cells2 ((Up.tr (up_drew _) (hS.upb rfl)).blk Tz)
        clear hd
        refine ⟨?_⟩; simp only [kgoal, putsFrom, depsOf, pu0, pu1, pu2, pu3, pz0, pz1, pz2, pz3, pz4, pz5, pz6, pz7, pz8, Nat.reduceAdd, Nat.reduceBEq, ↓reduceIte, Act.put]
        simp only [h14]
        rw [if_pos (by rfl)]
        go_simp
        exact hK _ _ (Up.refl _) rfl
      · intro x w1 K hU hS hO hd hK
        have h15 : (x 15).v = .agg #[.bool bm, .slice aom nm capm] := kval (hd 15 (by decide)).1 rfl
        have h16 : (x 16).v = .agg #[.bool bz, .slice aoz nz capz] := kval (hd 16 (by decide)).1 rfl
        have h14 : (x 14).v = .bool true := kval (hd 14 (by decide)).1 rfl
        clear hd
        refine ⟨?_⟩; simp only [kgoal, putsFrom, depsOf, pu0, pu1, pu2, pu3, pz0, pz1, pz2, pz3, pz4, pz5, pz6, pz7, pz8, Nat.reduceAdd, Nat.reduceBEq, ↓reduceIte, Act.put]
        simp only [h15, h16, h14]
        rw [if_pos (by rfl)]
        go_simp
        refine (cmp_rd (M := 70368744175621) (((unhide Cm).rd (M' := 70368744175621) (by omega)).up (Up.tr (up_drew _) (hS.upb rfl))) (((unhide Cz).rd (M' := 70368744175621) (by omega)).up (Up.tr (up_drew _) (hS.upb rfl)))).mono ?_
        rintro e w2 ⟨v2, rfl, n2, u2⟩
        rw [hM1] at n2
        exact hK _ _ u2 n2
      · intro x w1 K hU hS hO hd hK
        have h17 : (x 17).v = .int .i64 (0) := kval (hd 17 (by decide)).1 rfl
        have h14 : (x 14).v = .bool true := kval (hd 14 (by decide)).1 rfl
        clear hd
        refine ⟨?_⟩; simp only [kgoal, putsFrom, depsOf, pu0, pu1, pu2, pu3, pz0, pz1, pz2, pz3, pz4, pz5, pz6, pz7, pz8, Nat.reduceAdd, Nat.reduceBEq, ↓reduceIte, Act.put]
        simp only [h17, h14]
        rw [if_pos (by rfl)]
        go_simp
        exact hK _ _ (Up.refl _) rfl
      · intro x w1 K hU hS hO hd hK
        have h18 : (x 18).v = .bool true := kval (hd 18 (by decide)).1 rfl
        have h14 : (x 14).v = .bool true := kval (hd 14 (by decide)).1 rfl
        clear hd
        refine ⟨?_⟩; simp only [kgoal, putsFrom, depsOf, pu0, pu1, pu2, pu3, pz0, pz1, pz2, pz3, pz4, pz5, pz6, pz7, pz8, Nat.reduceAdd, Nat.reduceBEq, ↓reduceIte, Act.put]
        simp only [h18, h14]
        rw [if_pos (by rfl)]
        go_simp
        exact hK _ _ (Up.refl _) rfl
      · intro x w1 K hU hS hO hd hK
        have h19 : (x 19).v = .bool true := kval (hd 19 (by decide)).1 rfl
        clear hd
        refine ⟨?_⟩; simp only [kgoal, putsFrom, depsOf, pu0, pu1, pu2, pu3, pz0, pz1, pz2, pz3, pz4, pz5, pz6, pz7, pz8, Nat.reduceAdd, Nat.reduceBEq, ↓reduceIte, Act.put]
        simp only [h19]
        rw [if_neg (by intro h; cases h)]
        exact hK _ _ (Up.refl _) rfl
      · intro x w1 K hU hS hO hd hK
        have h19 : (x 19).v = .bool true := kval (hd 19 (by decide)).1 rfl
        clear hd
        refine ⟨?_⟩; simp only [kgoal, putsFrom, depsOf, pu0, pu1, pu2, pu3, pz0, pz1, pz2, pz3, pz4, pz5, pz6, pz7, pz8, Nat.reduceAdd, Nat.reduceBEq, ↓reduceIte, Act.put]
        simp only [h19]
        rw [if_neg (by intro h; cases h)]
        exact hK _ _ (Up.refl _) rfl
      · intro x w1 K hU hS hO hd hK
        have h20 : (x 20).v = undef := kval (hd 20 (by decide)).1 rfl
        have h21 : (x 21).v = undef := kval (hd 21 (by decide)).1 rfl
        have h19 : (x 19).v = .bool true := kval (hd 19 (by decide)).1 rfl
        clear hd
        refine ⟨?_⟩; simp only [kgoal, putsFrom, depsOf, pu0, pu1, pu2, pu3, pz0, pz1, pz2, pz3, pz4, pz5, pz6, pz7, pz8, Nat.reduceAdd, Nat.reduceBEq, ↓reduceIte, Act.put]
        simp only [h20, h21, h19]
        rw [if_neg (by intro h; cases h)]
        exact hK _ _ (Up.refl _) rfl
      · intro x w1 K hU hS hO hd hK
        have h22 : (x 22).v = undef := kval (hd 22 (by decide)).1 rfl
        have h19 : (x 19).v = .bool true := kval (hd 19 (by decide)).1 rfl
        clear hd
        refine ⟨?_⟩; simp only [kgoal, putsFrom, depsOf, pu0, pu1, pu2, pu3, pz0, pz1, pz2, pz3, pz4, pz5, pz6, pz7, pz8, Nat.reduceAdd, Nat.reduceBEq, ↓reduceIte, Act.put]
        simp only [h22, h19]
        rw [if_neg (by intro h; cases h)]
        exact hK _ _ (Up.refl _) rfl
      · intro x w1 K hU hS hO hd hK
        have h19 : (x 19).v = .bool true := kval (hd 19 (by decide)).1 rfl
        clear hd
        refine ⟨?_⟩; simp only [kgoal, putsFrom, depsOf, pu0, pu1, pu2, pu3, pz0, pz1, pz2, pz3, pz4, pz5, pz6, pz7, pz8, Nat.reduceAdd, Nat.reduceBEq, ↓reduceIte, Act.put]
        simp only [h19]
        rw [if_neg (by intro h; cases h)]
        exact hK _ _ (Up.refl _) rfl
      · intro x w1 K hU hS hO hd hK
        have h23 : (x 23).v = undef := kval (hd 23 (by decide)).1 rfl
        have h24 : (x 24).v = undef := kval (hd 24 (by decide)).1 rfl
        have h19 : (x 19).v = .bool true := kval (hd 19 (by decide)).1 rfl
        clear hd
        refine ⟨?_⟩; simp only [kgoal, putsFrom, depsOf, pu0, pu1, pu2, pu3, pz0, pz1, pz2, pz3, pz4, pz5, pz6, pz7, pz8, Nat.reduceAdd, Nat.reduceBEq, ↓reduceIte, Act.put]
        simp only [h23, h24, h19]
        rw [if_neg (by intro h; cases h)]
        exact hK _ _ (Up.refl _) rfl
      · intro x w1 K hU hS hO hd hK
        have h19 : (x 19).v = .bool true := kval (hd 19 (by decide)).1 rfl
        have h25 : (x 25).v = undef := kval (hd 25 (by decide)).1 rfl
        have h14 : (x 14).v = .bool true := kval (hd 14 (by decide)).1 rfl
        clear hd
        refine ⟨?_⟩; simp only [kgoal, putsFrom, depsOf, pu0, pu1, pu2, pu3, pz0, pz1, pz2, pz3, pz4, pz5, pz6, pz7, pz8, Nat.reduceAdd, Nat.reduceBEq, ↓reduceIte, Act.put]
        simp only [h19, h25, h14]
        rw [if_pos (by rfl)]
        go_simp
        exact hK _ _ (Up.refl _) rfl
      · intro x w1 K hU hS hO hd hK
        have h14 : (x 14).v = .bool true := kval (hd 14 (by decide)).1 rfl
        have h26 : (x 26).v = .bool true := kval (hd 26 (by decide)).1 rfl
        clear hd
        refine ⟨?_⟩; simp only [kgoal, putsFrom, depsOf, pu0, pu1, pu2, pu3, pz0, pz1, pz2, pz3, pz4, pz5, pz6, pz7, pz8, Nat.reduceAdd, Nat.reduceBEq, ↓reduceIte, Act.put]
        simp only [h14, h26]
        go_simp
        exact hK _ _ (Up.refl _) rfl
      · intro x w1 K hU hS hO hd hK
        have h27 : (x 27).v = .bool true := kval (hd 27 (by decide)).1 rfl
        clear hd
        refine ⟨?_⟩; simp only [kgoal, putsFrom, depsOf, pu0, pu1, pu2, pu3, pz0, pz1, pz2, pz3, pz4, pz5, pz6, pz7, pz8, Nat.reduceAdd, Nat.reduceBEq, ↓reduceIte, Act.put]
        simp only [h27]
        go_simp
        exact hK _ _ (Up.refl _) rfl
      intro x w1 hU hS hR hlo hdis
      have hfin : (x 28).v = .bool true := kval (hR 28 (by decide)) rfl
      have hG := Up.tr (up_drew _) (hS.upb rfl)
      refine ⟨?_⟩; simp only [kgoal, putsFrom, depsOf, pu0, pu1, pu2, pu3, pz0, pz1, pz2, pz3, pz4, pz5, pz6, pz7, pz8, Nat.reduceAdd, Nat.reduceBEq, ↓reduceIte, Act.put]
      rw [hfin]
      generalize (x 0).v = z0l
      generalize (x 1).v = z1l
      generalize (x 2).v = z2l
      generalize (x 3).v = z3l
      generalize (x 4).v = z4l
      generalize (x 5).v = z5l
      generalize (x 6).v = z6l
      generalize (x 7).v = z7l
      generalize (x 8).v = z8l
      generalize (x 9).v = z9l
      generalize (x 10).v = z10l
      generalize (x 11).v = z11l
      generalize (x 12).v = z12l
      generalize (x 13).v = z13l
      generalize (x 14).v = z14l
      generalize (x 15).v = z15l
      generalize (x 16).v = z16l
      generalize (x 17).v = z17l
      generalize (x 18).v = z18l
      generalize (x 19).v = z19l
      generalize (x 20).v = z20l
      generalize (x 21).v = z21l
      generalize (x 22).v = z22l
      generalize (x 23).v = z23l
      generalize (x 24).v = z24l
      generalize (x 25).v = z25l
      generalize (x 26).v = z26l
      generalize (x 27).v = z27l
      clear hR hlo hdis hS hfin
      go_wp2_with (go_at_call 20; refine (awake_any _ ((unhide HT).up hU)).mono ?_; rintro e w9 ⟨rfl, u9⟩)
      go_ret
      exact ⟨rfl, hU.tr u9⟩

    · refine wp_region_knd (by kernel_rfl) w V3 [[], [], [0, 1], [2], [3], [4], [4], [5, 6, 4], [4], [8, 4], [4], [9, 10, 4], [7, 11, 4], [4, 12], [13], [14], [14], [15, 16, 14], [17, 14], [18, 14], [19], [19], [20, 21, 19], [22, 19], [19], [23, 24, 19], [19, 25, 14], [14, 26], [27]] [.val [] (fun _ g _ => g.v = .agg #[.bool br, .slice aor nr capr]), .val [] (fun _ g _ => g.v = .agg #[.bool bz, .slice aoz nz capz]), .val [] (fun _ g _ => g.v = .int .i64 (0)), .val [] (fun _ g _ => g.v = .bool true), .val [] (fun _ g _ => g.v = .bool true), .val [] (fun _ g _ => g.v = undef), .val [] (fun _ g _ => g.v = undef), .val [] (fun _ g _ => g.v = undef), .val [] (fun _ g _ => g.v = undef), .val [] (fun _ g _ => g.v = undef), .val [] (fun _ g _ => g.v = undef), .val [] (fun _ g _ => g.v = undef), .val [] (fun _ g _ => g.v = undef), .val [] (fun _ g _ => g.v = .bool true), .val [] (fun _ g _ => g.v = .bool true), .val [] (fun _ g _ => g.v = .agg #[.bool bm, .slice aom nm capm]), .val [] (fun _ g _ => g.v = .agg #[.bool bz, .slice aoz nz capz]), .val [] (fun _ g _ => g.v = .int .i64 (-1)), .val [] (fun _ g _ => g.v = .bool false), .val [] (fun _ g _ => g.v = .bool false), .val [] (fun _ g _ => g.v = .agg #[.bool bm, .slice aom nm capm]), .val [] (fun _ g _ => g.v = .agg #[.bool bz, .slice aoz nz capz]), .val [] (fun _ g _ => g.v = .int .i64 (-1)), .val [] (fun _ g _ => g.v = .bool true), .val [] (fun _ g _ => g.v = .bool true), .val [] (fun _ g _ => g.v = .bool true), .val [] (fun _ g _ => g.v = .bool true), .val [] (fun _ g _ => g.v = .bool true), .val [] (fun _ g _ => g.v = .bool true)] (by kernel_rfl) (by kernel_rfl) rfl ⟨trivial, trivial, trivial, trivial, trivial, trivial, trivial, trivial, trivial, trivial, trivial, trivial, trivial, trivial, trivial, trivial, trivial, trivial, trivial, trivial, trivial, trivial, trivial, trivial, trivial, trivial, trivial, trivial, trivial, trivial⟩ ⟨fun _ _ _ _ _ h => h, fun _ _ _ _ _ h => h, fun _ _ _ _ _ h => h, fun _ _ _ _ _ h => h, fun _ _ _ _ _ h => h, fun _ _ _ _ _ h => h, fun _ _ _ _ _ h => h, fun _ _ _ _ _ h => h, fun _ _ _ _ _ h => h, fun _ _ _ _ _ h => h, fun _ _ _ _ _ h => h, fun _ _ _ _ _ h => h, fun _ _ _ _ _ h => h, fun _ _ _ _ _ h => h, fun _ _ _ _ _ h => h, fun _ _ _ _ _ h => h, fun _ _ _ _ _ h => h, fun _ _ _ _ _ h => h, fun _ _ _ _ _ h => h, fun _ _ _ _ _ h => h, fun _ _ _ _ _ h => h, fun _ _ _ _ _ h => h, fun _ _ _ _ _ h => h, fun _ _ _ _ _ h => h, fun _ _ _ _ _ h => h, fun _ _ _ _ _ h => h, fun _ _ _ _ _ h => h, fun _ _ _ _ _ h => h, fun _ _ _ _ _ h => h, trivial⟩ ⟨?_, ?_, ?_, ?_, ?_, ?_, ?_, ?_, ?_, ?_, ?_, ?_, ?_, ?_, ?_, ?_, ?_, ?_, ?_, ?_, ?_, ?_, ?_, ?_, ?_, ?_, ?_, ?_, ?_, trivial⟩ ?_
      · intro x w1 K hU hS hO hd hK
        obtain ⟨k0, k1, -⟩ := cells2 ((Up.tr (up_drew _) (hS.upb rfl)).blk Tr)
        clear hd
        refine ⟨?_⟩; simp only [kgoal, putsFrom, depsOf, pu0, pu1, pu2, pu3, pz0, pz1, pz2, pz3, pz4, pz5, pz6, pz7, pz8, Nat.reduceAdd, Nat.reduceBEq, ↓reduceIte, Act.put]
        go_simp
        exact hK _ _ (Up.refl _) rfl
      · intro x w1 K hU hS hO hd hK
        obtain ⟨k0, k1, -⟩ := cells2 ((Up.tr (up_drew _) (hS.upb rfl)).blk Tz)
        clear hd
        refine ⟨?_⟩; simp only [kgoal, putsFrom, depsOf, pu0, pu1, pu2, pu3, pz0, pz1, pz2, pz3, pz4, pz5, pz6, pz7, pz8, Nat.reduceAdd, Nat.reduceBEq, ↓reduceIte, Act.put]
        go_simp
        exact hK _ _ (Up.refl _) rfl
      · intro x w1 K hU hS hO hd hK
        have h0 : (x 0).v = .agg #[.bool br, .slice aor nr capr] := kval (hd 0 (by decide)).1 rfl
        have h1 : (x 1).v = .agg #[.bool bz, .slice aoz nz capz] := kval (hd 1 (by decide)).1 rfl
        clear hd
        refine ⟨?_⟩; simp only [kgoal, putsFrom, depsOf, pu0, pu1, pu2, pu3, pz0, pz1, pz2, pz3, pz4, pz5, pz6, pz7, pz8, Nat.reduceAdd, Nat.reduceBEq, ↓reduceIte, Act.put]
        simp only [h0, h1]
        go_simp
        refine (cmp_rd (M := 70368744175621) (((unhide Cr).rd (M' := 70368744175621) (by omega)).up (Up.tr (up_drew _) (hS.upb rfl))) (((unhide Cz).rd (M' := 70368744175621) (by omega)).up (Up.tr (up_drew _) (hS.upb rfl)))).mono ?_
        rintro e w2 ⟨v2, rfl, n2, u2⟩
        rw [hR1] at n2
        exact hK _ _ u2 n2
      · intro x w1 K hU hS hO hd hK
        have h2 : (x 2).v = .int .i64 (0) := kval (hd 2 (by decide)).1 rfl
        clear hd
        refine ⟨?_⟩; simp only [kgoal, putsFrom, depsOf, pu0, pu1, pu2, pu3, pz0, pz1, pz2, pz3, pz4, pz5, pz6, pz7, pz8, Nat.reduceAdd, Nat.reduceBEq, ↓reduceIte, Act.put]
        simp only [h2]
        go_simp
        exact hK _ _ (Up.refl _) rfl
      · intro x w1 K hU hS hO hd hK
        have h3 : (x 3).v = .bool true := kval (hd 3 (by decide)).1 rfl
        clear hd
        refine ⟨?_⟩; simp only [kgoal, putsFrom, depsOf, pu0, pu1, pu2, pu3, pz0, pz1, pz2, pz3, pz4, pz5, pz6, pz7, pz8, Nat.reduceAdd, Nat.reduceBEq, ↓reduceIte, Act.put]
        simp only [h3]
        go_simp
        exact hK _ _ (Up.refl _) rfl
      · intro x w1 K hU hS hO hd hK
        have h4 : (x 4).v = .bool true := kval (hd 4 (by decide)).1 rfl
        clear hd
        refine ⟨?_⟩; simp only [kgoal, putsFrom, depsOf, pu0, pu1, pu2, pu3, pz0, pz1, pz2, pz3, pz4, pz5, pz6, pz7, pz8, Nat.reduceAdd, Nat.reduceBEq, ↓reduceIte, Act.put]
        simp only [h4]
        rw [if_neg (by intro h; cases h)]
        exact hK _ _ (Up.refl _) rfl
      · intro x w1 K hU hS hO hd hK
        have h4 : (x 4).v = .bool true := kval (hd 4 (by decide)).1 rfl
        clear hd
        refine ⟨?_⟩; simp only [kgoal, putsFrom, depsOf, pu0, pu1, pu2, pu3, pz0, pz1, pz2, pz3, pz4, pz5, pz6, pz7, pz8, Nat.reduceAdd, Nat.reduceBEq, ↓reduceIte, Act.put]
        simp only [h4]
        rw [if_neg (by intro h; cases h)]
        exact hK _ _ (Up.refl _) rfl
      · intro x w1 K hU hS hO hd hK
        have h5 : (x 5).v = undef := kval (hd 5 (by decide)).1 rfl
        have h6 : (x 6).v = undef := kval (hd 6 (by decide)).1 rfl
        have h4 : (x 4).v = .bool true := kval (hd 4 (by decide)).1 rfl
        clear hd
        refine ⟨?_⟩; simp only [kgoal, putsFrom, depsOf, pu0, pu1, pu2, pu3, pz0, pz1, pz2, pz3, pz4, pz5, pz6, pz7, pz8, Nat.reduceAdd, Nat.reduceBEq, ↓reduceIte, Act.put]
        simp only [h5, h6, h4]
        rw [if_neg (by intro h; cases h)]
        exact hK _ _ (Up.refl _) rfl
      · intro x w1 K hU hS hO hd hK
        have h4 : (x 4).v = .bool true := kval (hd 4 (by decide)).1 rfl
        clear hd
        refine ⟨?_⟩; simp only [kgoal, putsFrom, depsOf, pu0, pu1, pu2, pu3, pz0, pz1, pz2, pz3, pz4, pz5, pz6, pz7, pz8, Nat.reduceAdd, Nat.reduceBEq, ↓reduceIte, Act.put]
        simp only [h4]
        rw [if_neg (by intro h; cases h)]
        exact hK _ _ (Up.refl _) rfl
      · intro x w1 K hU hS hO hd hK
        have h8 : (x 8).v = undef := kval (hd 8 (by decide)).1 rfl
        have h4 : (x 4).v = .bool true := kval (hd 4 (by decide)).1 rfl
        clear hd
        refine ⟨?_⟩; simp only [kgoal, putsFrom, depsOf, pu0, pu1, pu2, pu3, pz0, pz1, pz2, pz3, pz4, pz5, pz6, pz7, pz8, Nat.reduceAdd, Nat.reduceBEq, ↓reduceIte, Act.put]
        simp only [h8, h4]
        rw [if_neg (by intro h; cases h)]
        exact hK _ _ (Up.refl _) rfl
      · intro x w1 K hU hS hO hd hK
        have h4 : (x 4).v = .bool true := kval (hd 4 (by decide)).1 rfl
        clear hd
        refine ⟨?_⟩; simp only [kgoal, putsFrom, depsOf, pu0, pu1, pu2, pu3, pz0, pz1, pz2, pz3, pz4, pz5, pz6, pz7, pz8, Nat.reduceAdd, Nat.reduceBEq, ↓reduceIte, Act.put]
        simp only [h4]
        rw [if_neg (by intro h; cases h)]
        exact hK _ _ (Up.refl _) rfl
      · intro x w1 K hU hS hO hd hK
        have h9 : (x 9).v = undef := kval (hd 9 (by decide)).1 rfl
        have h10 : (x 10).v = undef := kval (hd 10 (by decide)).1 rfl
        have h4 : (x 4).v = .bool true := kval (hd 4 (by decide)).1 rfl
        clear hd
        refine ⟨?_⟩; simp only [kgoal, putsFrom, depsOf, pu0, pu1, pu2, pu3, pz0, pz1, pz2, pz3, pz4, pz5, pz6, pz7, pz8, Nat.reduceAdd, Nat.reduceBEq, ↓reduceIte, Act.put]
        simp only [h9, h10, h4]
        rw [if_neg (by intro h; cases h)]
        exact hK _ _ (Up.refl _) rfl
      · intro x w1 K hU hS hO hd hK
        have h7 : (x 7).v = undef := kval (hd 7 (by decide)).1 rfl
        have h11 : (x 11).v = undef := kval (hd 11 (by decide)).1 rfl
        have h4 : (x 4).v = .bool true := kval (hd 4 (by decide)).1 rfl
        clear hd
        refine ⟨?_⟩; simp only [kgoal, putsFrom, depsOf, pu0, pu1, pu2, pu3, pz0, pz1, pz2, pz3, pz4, pz5, pz6, pz7, pz8, Nat.reduceAdd, Nat.reduceBEq, ↓reduceIte, Act.put]
        simp only [h7, h11, h4]
        rw [if_neg (by intro h; cases h)]
        exact hK _ _ (Up.refl _) rfl
      · intro x w1 K hU hS hO hd hK
        have h4 : (x 4).v = .bool true := kval (hd 4 (by decide)).1 rfl
        have h12 : (x 12).v = undef := kval (hd 12 (by decide)).1 rfl
        clear hd
        refine ⟨?_⟩; simp only [kgoal, putsFrom, depsOf, pu0, pu1, pu2, pu3, pz0, pz1, pz2, pz3, pz4, pz5, pz6, pz7, pz8, Nat.reduceAdd, Nat.reduceBEq, ↓reduceIte, Act.put]
        simp only [h4, h12]
        go_simp
        exact hK _ _ (Up.refl _) rfl
      · intro x w1 K hU hS hO hd hK
        have h13 : (x 13).v = .bool true := kval (hd 13 (by decide)).1 rfl
        clear hd
        refine ⟨?_⟩; simp only [kgoal, putsFrom, depsOf, pu0, pu1, pu2, pu3, pz0, pz1, pz2, pz3, pz4, pz5, pz6, pz7, pz8, Nat.reduceAdd, Nat.reduceBEq, ↓reduceIte, Act.put]
        simp only [h13]
        go_simp
        exact hK _ _ (Up.refl _) rfl
      · intro x w1 K hU hS hO hd hK
        have h14 : (x 14).v = .bool true := kval (hd 14 (by decide)).1 rfl
        obtain ⟨k0, k1, -⟩ := cells2 ((Up.tr (up_drew _) (hS.upb rfl)).blk Tm)
        clear hd
        refine ⟨?_⟩; simp only [kgoal, putsFrom, depsOf, pu0, pu1, pu2, pu3, pz0, pz1, pz2, pz3, pz4, pz5, pz6, pz7, pz8, Nat.reduceAdd, Nat.reduceBEq, ↓reduceIte, Act.put]
        simp only [h14]
        rw [if_pos (by rfl)]
        go_simp
        exact hK _ _ (Up.refl _) rfl
      · intro x w1 K hU hS hO hd hK
        have h14 : (x 14).v = .bool true := kval (hd 14 (by decide)).1 rfl
        obtain ⟨k0, k1, -⟩ := cells2 ((Up.tr (up_drew _) (hS.upb rfl)).blk Tz)
        clear hd
        refine ⟨?_⟩; simp only [kgoal, putsFrom, depsOf, pu0, pu1, pu2, pu3, pz0, pz1, pz2, pz3, pz4, pz5, pz6, pz7, pz8, Nat.reduceAdd, Nat.reduceBEq, ↓reduceIte, Act.put]
        simp only [h14]
        rw [if_pos (by rfl)]
        go_simp
        exact hK _ _ (Up.refl _) rfl
      · intro x w1 K hU hS hO hd hK
        have h15 : (x 15).v = .agg #[.bool bm, .slice aom nm capm] := kval (hd 15 (by decide)).1 rfl
        have h16 : (x 16).v = .agg #[.bool bz, .slice aoz nz capz] := kval (hd 16 (by decide)).1 rfl
        have h14 : (x 14).v = .bool true := kval (hd 14 (by decide)).1 rfl
        clear hd
        refine ⟨?_⟩; simp only [kgoal, putsFrom, depsOf, pu0, pu1, pu2, pu3, pz0, pz1, pz2, pz3, pz4, pz5, pz6, pz7, pz8, Nat.reduceAdd, Nat.reduceBEq, ↓reduceIte, Act.put]
        simp only [h15, h16, h14]
        rw [if_pos (by rfl)]
        go_simp
        refine (cmp_rd (M := 70368744175621) (((unhide Cm).rd (M' := 70368744175621) (by omega)).up (Up.tr (up_drew _) (hS.upb rfl))) (((unhide Cz).rd (M' := 70368744175621) (by omega)).up (Up.tr (up_drew _) (hS.upb rfl)))).mono ?_
        rintro e w2 ⟨v2, rfl, n2, u2⟩
        rw [hM1] at n2
        exact hK _ _ u2 n2
      · intro x w1 K hU hS hO hd hK
        have h17 : (x 17).v = .int .i64 (-1) := kval (hd 17 (by decide)).1 rfl
        have h14 : (x 14).v = .bool true := kval (hd 14 (by decide)).1 rfl
        clear hd
        refine ⟨?_⟩; simp only [kgoal, putsFrom, depsOf, pu0, pu1, pu2, pu3, pz0, pz1, pz2, pz3, pz4, pz5, pz6, pz7, pz8, Nat.reduceAdd, Nat.reduceBEq, ↓reduceIte, Act.put]
        simp only [h17, h14]
        rw [if_pos (by rfl)]
        go_simp
        exact hK _ _ (Up.refl _) rfl
      · intro x w1 K hU hS hO hd hK
        have h18 : (x 18).v = .bool false := kval (hd 18 (by decide)).1 rfl
        have h14 : (x 14).v = .bool true := kval (hd 14 (by decide)).1 rfl
        clear hd
        refine ⟨?_⟩; simp only [kgoal, putsFrom, depsOf, pu0, pu1, pu2, pu3, pz0, pz1, pz2, pz3, pz4, pz5, pz6, pz7, pz8, Nat.reduceAdd, Nat.reduceBEq, ↓reduceIte, Act.put]
        simp only [h18, h14]
        rw [if_pos (by rfl)]
        go_simp
        exact hK _ _ (Up.refl _) rfl
      · intro x w1 K hU hS hO hd hK
        have h19 : (x 19).v = .bool false := kval (hd 19 (by decide)).1 rfl
        obtain ⟨k0, k1, -⟩ := cells2 ((Up.tr (up_drew _) (hS.upb rfl)).blk Tm)
        clear hd
        refine ⟨?_⟩; simp only [kgoal, putsFrom, depsOf, pu0, pu1, pu2, pu3, pz0, pz1, pz2, pz3, pz4, pz5, pz6, pz7, pz8, Nat.reduceAdd, Nat.reduceBEq, ↓reduceIte, Act.put]
        simp only [h19]
        rw [if_pos (by rfl)]
        go_simp
        exact hK _ _ (Up.refl _) rfl
      · intro x w1 K hU hS hO hd hK
        have h19 : (x 19).v = .bool false := kval (hd 19 (by decide)).1 rfl
        obtain ⟨k0, k1, -⟩ := cells2 ((Up.tr (up_drew _) (hS.upb rfl)).blk Tz)
        clear hd
        refine ⟨?_⟩; simp only [kgoal, putsFrom, depsOf, pu0, pu1, pu2, pu3, pz0, pz1, pz2, pz3, pz4, pz5, pz6, pz7, pz8, Nat.reduceAdd, Nat.reduceBEq, ↓reduceIte, Act.put]
        simp only [h19]
        rw [if_pos (by rfl)]
        go_simp
        exact hK _ _ (Up.refl _) rfl
      · intro x w1 K hU hS hO hd hK
        have h20 : (x 20).v = .agg #[.bool bm, .slice aom nm capm] := kval (hd 20 (by decide)).1 rfl
        have h21 : (x 21).v = .agg #[.bool bz, .slice aoz nz capz] := kval (hd 21 (by decide)).1 rfl
        have h19 : (x 19).v = .bool false := kval (hd 19 (by decide)).1 rfl
        clear hd
        refine ⟨?_⟩; simp only [kgoal, putsFrom, depsOf, pu0, pu1, pu2, pu3, pz0, pz1, pz2, pz3, pz4, pz5, pz6, pz7, pz8, Nat.reduceAdd, Nat.reduceBEq, ↓reduceIte, Act.put]
        simp only [h20, h21, h19]
        rw [if_pos (by rfl)]
        go_simp
        refine (cmp_rd (M := 70368744175621) (((unhide Cm).rd (M' := 70368744175621) (by omega)).up (Up.tr (up_drew _) (hS.upb rfl))) (((unhide Cz).rd (M' := 70368744175621) (by omega)).up (Up.tr (up_drew _) (hS.upb rfl)))).mono ?_
        rintro e w2 ⟨v2, rfl, n2, u2⟩
        rw [hM1] at n2
        exact hK _ _ u2 n2
      · intro x w1 K hU hS hO hd hK
        have h22 : (x 22).v = .int .i64 (-1) := kval (hd 22 (by decide)).1 rfl
        have h19 : (x 19).v = .bool false := kval (hd 19 (by decide)).1 rfl
        clear hd
        refine ⟨?_⟩; simp only [kgoal, putsFrom, depsOf, pu0, pu1, pu2, pu3, pz0, pz1, pz2, pz3, pz4, pz5, pz6, pz7, pz8, Nat.reduceAdd, Nat.reduceBEq, ↓reduceIte, Act.put]
        simp only [h22, h19]
        rw [if_pos (by rfl)]
        go_simp
        exact hK _ _ (Up.refl _) rfl
      · intro x w1 K hU hS hO hd hK
        have h19 : (x 19).v = .bool false := kval (hd 19 (by decide)).1 rfl
        clear hd
        refine ⟨?_⟩; simp only [kgoal, putsFrom, depsOf, pu0, pu1, pu2, pu3, pz0, pz1, pz2, pz3, pz4, pz5, pz6, pz7, pz8, Nat.reduceAdd, Nat.reduceBEq, ↓reduceIte, Act.put]
        simp only [h19]
        rw [if_pos (by rfl)]
        go_simp
        exact hK _ _ (Up.refl _) rfl
      · intro x w1 K hU hS hO hd hK
        have h23 : (x 23).v = .bool true := kval (hd 23 (by decide)).1 rfl
        have h24 : (x 24).v = .bool true := kval (hd 24 (by decide)).1 rfl
        have h19 : (x 19).v = .bool false := kval (hd 19 (by decide)).1 rfl
        clear hd
        refine ⟨?_⟩; simp only [kgoal, putsFrom, depsOf, pu0, pu1, pu2, pu3, pz0, pz1, pz2, pz3, pz4, pz5, pz6, pz7, pz8, Nat.reduceAdd, Nat.reduceBEq, ↓reduceIte, Act.put]
        simp only [h23, h24, h19]
        rw [if_pos (by rfl)]
        go_simp
        exact hK _ _ (Up.refl _) rfl
      · intro x w1 K hU hS hO hd hK
        have h19 : (x 19).v = .bool false := kval (hd 19 (by decide)).1 rfl
        have h25 : (x 25).v = .bool true := kval (hd 25 (by decide)).1 rfl
        have h14 : (x 14).v = .bool true := kval (hd 14 (by decide)).1 rfl
        clear hd
        refine ⟨?_⟩; simp only [kgoal, putsFrom, depsOf, pu0, pu1, pu2, pu3, pz0, pz1, pz2, pz3, pz4, pz5, pz6, pz7, pz8, Nat.reduceAdd, Nat.reduceBEq, ↓reduceIte, Act.put]
        simp only [h19, h25, h14]
        rw [if_pos (by rfl)]
        go_simp
        exact hK _ _ (Up.refl _) rfl
      · intro x w1 K hU hS hO hd hK
        have h14 : (x 14).v = .bool true := kval (hd 14 (by decide)).1 rfl
        have h26 : (x 26).v = .bool true := kval (hd 26 (by decide)).1 rfl
        clear hd
        refine ⟨?_⟩; simp only [kgoal, putsFrom, depsOf, pu0, pu1, pu2, pu3, pz0, pz1, pz2, pz3, pz4, pz5, pz6, pz7, pz8, Nat.reduceAdd, Nat.reduceBEq, ↓reduceIte, Act.put]
        simp only [h14, h26]
        go_simp
        exact hK _ _ (Up.refl _) rfl
      · intro x w1 K hU hS hO hd hK
        have h27 : (x 27).v = .bool true := kval (hd 27 (by decide)).1 rfl
        clear hd
        refine ⟨?_⟩; simp only [kgoal, putsFrom, depsOf, pu0, pu1, pu2, pu3, pz0, pz1, pz2, pz3, pz4, pz5, pz6, pz7, pz8, Nat.reduceAdd, Nat.reduceBEq, ↓reduceIte, Act.put]
        simp only [h27]
        go_simp
        exact hK _ _ (Up.refl _) rfl
      intro x w1 hU hS hR hlo hdis
      have hfin : (x 28).v = .bool true := kval (hR 28 (by decide)) rfl
      have hG := Up.tr (up_drew _) (hS.upb rfl)
      refine ⟨?_⟩; simp only [kgoal, putsFrom, depsOf, pu0, pu1, pu2, pu3, pz0, pz1, pz2, pz3, pz4, pz5, pz6, pz7, pz8, Nat.reduceAdd, Nat.reduceBEq, ↓reduceIte, Act.put]
      rw [hfin]
      generalize (x 0).v = z0l
      generalize (x 1).v = z1l
      generalize (x 2).v = z2l
      generalize (x 3).v = z3l
      generalize (x 4).v = z4l
      generalize (x 5).v = z5l
      generalize (x 6).v = z6l
      generalize (x 7).v = z7l
      generalize (x 8).v = z8l
      generalize (x 9).v = z9l
      generalize (x 10).v = z10l
      generalize (x 11).v = z11l
      generalize (x 12).v = z12l
      generalize (x 13).v = z13l
      generalize (x 14).v = z14l
      generalize (x 15).v = z15l
      generalize (x 16).v = z16l
      generalize (x 17).v = z17l
      generalize (x 18).v = z18l
      generalize (x 19).v = z19l
      generalize (x 20).v = z20l
      generalize (x 21).v = z21l
      generalize (x 22).v = z22l
      generalize (x 23).v = z23l
      generalize (x 24).v = z24l
      generalize (x 25).v = z25l
      generalize (x 26).v = z26l
      generalize (x 27).v = z27l
      clear hR hlo hdis hS hfin
      go_wp2_with (go_at_call 20; refine (awake_any _ ((unhide HT).up hU)).mono ?_; rintro e w9 ⟨rfl, u9⟩)
      go_ret
      exact ⟨rfl, hU.tr u9⟩

    · refine wp_region_knd (by kernel_rfl) w V3 [[], [], [0, 1], [2], [3], [4], [4], [5, 6, 4], [4], [8, 4], [4], [9, 10, 4], [7, 11, 4], [4, 12], [13], [14], [14], [15, 16, 14], [17, 14], [18, 14], [19], [19], [20, 21, 19], [22, 19], [19], [23, 24, 19], [19, 25, 14], [14, 26], [27]] [.val [] (fun _ g _ => g.v = .agg #[.bool br, .slice aor nr capr]), .val [] (fun _ g _ => g.v = .agg #[.bool bz, .slice aoz nz capz]), .val [] (fun _ g _ => g.v = .int .i64 (sR)), .val [] (fun _ g _ => g.v = .bool false), .val [] (fun _ g _ => g.v = .bool false), .val [] (fun _ g _ => g.v = .agg #[.bool br, .slice aor nr capr]), .val [] (fun _ g _ => g.v = .agg #[.bool bz, .slice aoz nz capz]), .val [] (fun _ g _ => g.v = .int .i64 (sR)), .val [] (fun _ g _ => g.v = .agg #[.bool ba, .slice aoa na capa]), .val [] (fun w g _ => NumD (Xa) (na) w g.lo g.hi g.v), .val [] (fun _ g _ => g.v = .agg #[.bool bz, .slice aoz nz capz]), .val [] (fun _ g _ => g.v = .int .i64 (sR)), .val [] (fun _ g _ => g.v = .bool true), .val [] (fun _ g _ => g.v = .bool true), .val [] (fun _ g _ => g.v = .bool true), .val [] (fun _ g _ => g.v = .agg #[.bool bm, .slice aom nm capm]), .val [] (fun _ g _ => g.v = .agg #[.bool bz, .slice aoz nz capz]), .val [] (fun _ g _ => g.v = .int .i64 (0)), .val [] (fun _ g _ => g.v = .bool true), .val [] (fun _ g _ => g.v = .bool true), .val [] (fun _ g _ => g.v = undef), .val [] (fun _ g _ => g.v = undef), .val [] (fun _ g _ => g.v = undef), .val [] (fun _ g _ => g.v = undef), .val [] (fun _ g _ => g.v = undef), .val [] (fun _ g _ => g.v = undef), .val [] (fun _ g _ => g.v = .bool true), .val [] (fun _ g _ => g.v = .bool true), .val [] (fun _ g _ => g.v = .bool true)] (by kernel_rfl) (by kernel_rfl) rfl ⟨trivial, trivial, trivial, trivial, trivial, trivial, trivial, trivial, trivial, trivial, trivial, trivial, trivial, trivial, trivial, trivial, trivial, trivial, trivial, trivial, trivial, trivial, trivial, trivial, trivial, trivial, trivial, trivial, trivial, trivial⟩ ⟨fun _ _ _ _ _ h => h, fun _ _ _ _ _ h => h, fun _ _ _ _ _ h => h, fun _ _ _ _ _ h => h, fun _ _ _ _ _ h => h, fun _ _ _ _ _ h => h, fun _ _ _ _ _ h => h, fun _ _ _ _ _ h => h, fun _ _ _ _ _ h => h, fun _ _ _ _ hb h => h.keep hb, fun _ _ _ _ _ h => h, fun _ _ _ _ _ h => h, fun _ _ _ _ _ h => h, fun _ _ _ _ _ h => h, fun _ _ _ _ _ h => h, fun _ _ _ _ _ h => h, fun _ _ _ _ _ h => h, fun _ _ _ _ _ h => h, fun _ _ _ _ _ h => h, fun _ _ _ _ _ h => h, fun _ _ _ _ _ h => h, fun _ _ _ _ _ h => h, fun _ _ _ _ _ h => h, fun _ _ _ _ _ h => h, fun _ _ _ _ _ h => h, fun _ _ _ _ _ h => h, fun _ _ _ _ _ h => h, fun _ _ _ _ _ h => h, fun _ _ _ _ _ h => h, trivial⟩ ⟨?_, ?_, ?_, ?_, ?_, ?_, ?_, ?_, ?_, ?_, ?_, ?_, ?_, ?_, ?_, ?_, ?_, ?_, ?_, ?_, ?_, ?_, ?_, ?_, ?_, ?_, ?_, ?_, ?_, trivial⟩ ?_
      · intro x w1 K hU hS hO hd hK
        obtain ⟨k0, k1, -⟩ := cells2 ((Up.tr (up_drew _) (hS.upb rfl)).blk Tr)
        clear hd
        refine ⟨?_⟩; simp only [kgoal, putsFrom, depsOf, pu0, pu1, pu2, pu3, pz0, pz1, pz2, pz3, pz4, pz5, pz6, pz7, pz8, Nat.reduceAdd, Nat.reduceBEq, ↓reduceIte, Act.put]
        go_simp
        exact hK _ _ (Up.refl _) rfl
      · intro x w1 K hU hS hO hd hK
        obtain ⟨k0, k1, -⟩ := cells2 ((Up.tr (up_drew _) (hS.upb rfl)).blk Tz)
        clear hd
        refine ⟨?_⟩; simp only [kgoal, putsFrom, depsOf, pu0, pu1, pu2, pu3, pz0, pz1, pz2, pz3, pz4, pz5, pz6, pz7, pz8, Nat.reduceAdd, Nat.reduceBEq, ↓reduceIte, Act.put]
        go_simp
        exact hK _ _ (Up.refl _) rfl
      · intro x w1 K hU hS hO hd hK
        have h0 : (x 0).v = .agg #[.bool br, .slice aor nr capr] := kval (hd 0 (by decide)).1 rfl
        have h1 : (x 1).v = .agg #[.bool bz, .slice aoz nz capz] := kval (hd 1 (by decide)).1 rfl
        clear hd
        refine ⟨?_⟩; simp only [kgoal, putsFrom, depsOf, pu0, pu1, pu2, pu3, pz0, pz1, pz2, pz3, pz4, pz5, pz6, pz7, pz8, Nat.reduceAdd, Nat.reduceBEq, ↓reduceIte, Act.put]
        simp only [h0, h1]
        go_simp
        refine (cmp_rd (M := 70368744175621) (((unhide Cr).rd (M' := 70368744175621) (by omega)).up (Up.tr (up_drew _) (hS.upb rfl))) (((unhide Cz).rd (M' := 70368744175621) (by omega)).up (Up.tr (up_drew _) (hS.upb rfl)))).mono ?_
        rintro e w2 ⟨v2, rfl, n2, u2⟩
        rw [hR1] at n2
        exact hK _ _ u2 n2
      · intro x w1 K hU hS hO hd hK
        have h2 : (x 2).v = .int .i64 (sR) := kval (hd 2 (by decide)).1 rfl
        clear hd
        refine ⟨?_⟩; simp only [kgoal, putsFrom, depsOf, pu0, pu1, pu2, pu3, pz0, pz1, pz2, pz3, pz4, pz5, pz6, pz7, pz8, Nat.reduceAdd, Nat.reduceBEq, ↓reduceIte, Act.put]
        simp only [h2]
        go_simp
        exact hK _ _ (Up.refl _) rfl
      · intro x w1 K hU hS hO hd hK
        have h3 : (x 3).v = .bool false := kval (hd 3 (by decide)).1 rfl
        clear hd
        refine ⟨?_⟩; simp only [kgoal, putsFrom, depsOf, pu0, pu1, pu2, pu3, pz0, pz1, pz2, pz3, pz4, pz5, pz6, pz7, pz8, Nat.reduceAdd, Nat.reduceBEq, ↓reduceIte, Act.put]
        simp only [h3]
        go_simp
        exact hK _ _ (Up.refl _) rfl
      · intro x w1 K hU hS hO hd hK
        have h4 : (x 4).v = .bool false := kval (hd 4 (by decide)).1 rfl
        obtain ⟨k0, k1, -⟩ := cells2 ((Up.tr (up_drew _) (hS.upb rfl)).blk Tr)
        clear hd
        refine ⟨?_⟩; simp only [kgoal, putsFrom, depsOf, pu0, pu1, pu2, pu3, pz0, pz1, pz2, pz3, pz4, pz5, pz6, pz7, pz8, Nat.reduceAdd, Nat.reduceBEq, ↓reduceIte, Act.put]
        simp only [h4]
        rw [if_pos (by rfl)]
        go_simp
        exact hK _ _ (Up.refl _) rfl
      · intro x w1 K hU hS hO hd hK
        have h4 : (x 4).v = .bool false := kval (hd 4 (by decide)).1 rfl
        obtain ⟨k0, k1, -⟩ := cells2 ((Up.tr (up_drew _) (hS.upb rfl)).blk Tz)
        clear hd
        refine ⟨?_⟩; simp only [kgoal, putsFrom, depsOf, pu0, pu1, pu2, pu3, pz0, pz1, pz2, pz3, pz4, pz5, pz6, pz7, pz8, Nat.reduceAdd, Nat.reduceBEq, ↓reduceIte, Act.put]
        simp only [h4]
        rw [if_pos (by rfl)]
        go_simp
        exact hK _ _ (Up.refl _) rfl
      · intro x w1 K hU hS hO hd hK
        have h5 : (x 5).v = .agg #[.bool br, .slice aor nr capr] := kval (hd 5 (by decide)).1 rfl
        have h6 : (x 6).v = .agg #[.bool bz, .slice aoz nz capz] := kval (hd 6 (by decide)).1 rfl
        have h4 : (x 4).v = .bool false := kval (hd 4 (by decide)).1 rfl
        clear hd
        refine ⟨?_⟩; simp only [kgoal, putsFrom, depsOf, pu0, pu1, pu2, pu3, pz0, pz1, pz2, pz3, pz4, pz5, pz6, pz7, pz8, Nat.reduceAdd, Nat.reduceBEq, ↓reduceIte, Act.put]
        simp only [h5, h6, h4]
        rw [if_pos (by rfl)]
        go_simp
        refine (cmp_rd (M := 70368744175621) (((unhide Cr).rd (M' := 70368744175621) (by omega)).up (Up.tr (up_drew _) (hS.upb rfl))) (((unhide Cz).rd (M' := 70368744175621) (by omega)).up (Up.tr (up_drew _) (hS.upb rfl)))).mono ?_
        rintro e w2 ⟨v2, rfl, n2, u2⟩
        rw [hR1] at n2
        exact hK _ _ u2 n2
      · intro x w1 K hU hS hO hd hK
        have h4 : (x 4).v = .bool false := kval (hd 4 (by decide)).1 rfl
        obtain ⟨k0, k1, -⟩ := cells2 ((B3.tr (Up.tr (up_drew _) (hS.upb rfl))).blk (unhide K3).1)
        clear hd
        refine ⟨?_⟩; simp only [kgoal, putsFrom, depsOf, pu0, pu1, pu2, pu3, pz0, pz1, pz2, pz3, pz4, pz5, pz6, pz7, pz8, Nat.reduceAdd, Nat.reduceBEq, ↓reduceIte, Act.put]
        simp only [h4]
        rw [if_pos (by rfl)]
        go_simp
        exact hK _ _ (Up.refl _) rfl
      · intro x w1 K hU hS hO hd hK
        have h8 : (x 8).v = .agg #[.bool ba, .slice aoa na capa] := kval (hd 8 (by decide)).1 rfl
        have h4 : (x 4).v = .bool false := kval (hd 4 (by decide)).1 rfl
        clear hd
        refine ⟨?_⟩; simp only [kgoal, putsFrom, depsOf, pu0, pu1, pu2, pu3, pz0, pz1, pz2, pz3, pz4, pz5, pz6, pz7, pz8, Nat.reduceAdd, Nat.reduceBEq, ↓reduceIte, Act.put]
        simp only [h8, h4]
        rw [if_pos (by rfl)]
        go_simp
        refine (c_rd (M := na) (((unhide Ra).up hU)) (by omega)).mono ?_
        rintro e w2 ⟨v2, rfl, n2, u2⟩
        exact hK _ _ u2 n2
      · intro x w1 K hU hS hO hd hK
        have h4 : (x 4).v = .bool false := kval (hd 4 (by decide)).1 rfl
        obtain ⟨k0, k1, -⟩ := cells2 ((Up.tr (up_drew _) (hS.upb rfl)).blk Tz)
        clear hd
        refine ⟨?_⟩; simp only [kgoal, putsFrom, depsOf, pu0, pu1, pu2, pu3, pz0, pz1, pz2, pz3, pz4, pz5, pz6, pz7, pz8, Nat.reduceAdd, Nat.reduceBEq, ↓reduceIte, Act.put]
        simp only [h4]
        rw [if_pos (by rfl)]
        go_simp
        exact hK _ _ (Up.refl _) rfl
      · intro x w1 K hU hS hO hd hK
        have h9 : NumD (Xa) (na) w1 (x 9).lo (x 9).hi (x 9).v := kval (hd 9 (by decide)).1 rfl
        have h10 : (x 10).v = .agg #[.bool bz, .slice aoz nz capz] := kval (hd 10 (by decide)).1 rfl
        have h4 : (x 4).v = .bool false := kval (hd 4 (by decide)).1 rfl
        clear hd
        refine ⟨?_⟩; simp only [kgoal, putsFrom, depsOf, pu0, pu1, pu2, pu3, pz0, pz1, pz2, pz3, pz4, pz5, pz6, pz7, pz8, Nat.reduceAdd, Nat.reduceBEq, ↓reduceIte, Act.put]
        simp only [h10, h4]
        rw [if_pos (by rfl)]
        go_simp
        refine (cmp_rd (M := 70368744175621) (h9.rd (by omega)) (((unhide Cz).rd (M' := 70368744175621) (by omega)).up (Up.tr (up_drew _) (hS.upb rfl)))).mono ?_
        rintro e w2 ⟨v2, rfl, n2, u2⟩
        rw [hR2] at n2
        exact hK _ _ u2 n2
      · intro x w1 K hU hS hO hd hK
        have h7 : (x 7).v = .int .i64 (sR) := kval (hd 7 (by decide)).1 rfl
        have h11 : (x 11).v = .int .i64 (sR) := kval (hd 11 (by decide)).1 rfl
        have h4 : (x 4).v = .bool false := kval (hd 4 (by decide)).1 rfl
        clear hd
        refine ⟨?_⟩; simp only [kgoal, putsFrom, depsOf, pu0, pu1, pu2, pu3, pz0, pz1, pz2, pz3, pz4, pz5, pz6, pz7, pz8, Nat.reduceAdd, Nat.reduceBEq, ↓reduceIte, Act.put]
        simp only [h7, h11, h4]
        rw [if_pos (by rfl)]
        go_simp
        exact hK _ _ (Up.refl _) rfl
      · intro x w1 K hU hS hO hd hK
        have h4 : (x 4).v = .bool false := kval (hd 4 (by decide)).1 rfl
        have h12 : (x 12).v = .bool true := kval (hd 12 (by decide)).1 rfl
        clear hd
        refine ⟨?_⟩; simp only [kgoal, putsFrom, depsOf, pu0, pu1, pu2, pu3, pz0, pz1, pz2, pz3, pz4, pz5, pz6, pz7, pz8, Nat.reduceAdd, Nat.reduceBEq, ↓reduceIte, Act.put]
        simp only [h4, h12]
        go_simp
        exact hK _ _ (Up.refl _) rfl
      · intro x w1 K hU hS hO hd hK
        have h13 : (x 13).v = .bool true := kval (hd 13 (by decide)).1 rfl
        clear hd
        refine ⟨?_⟩; simp only [kgoal, putsFrom, depsOf, pu0, pu1, pu2, pu3, pz0, pz1, pz2, pz3, pz4, pz5, pz6, pz7, pz8, Nat.reduceAdd, Nat.reduceBEq, ↓reduceIte, Act.put]
        simp only [h13]
        go_simp
        exact hK _ _ (Up.refl _) rfl
      · intro x w1 K hU hS hO hd hK
        have h14 : (x 14).v = .bool true := kval (hd 14 (by decide)).1 rfl
        obtain ⟨k0, k1, -⟩ := cells2 ((Up.tr (up_drew _) (hS.upb rfl)).blk Tm)
        clear hd
        refine ⟨?_⟩; simp only [kgoal, putsFrom, depsOf, pu0, pu1, pu2, pu3, pz0, pz1, pz2, pz3, pz4, pz5, pz6, pz7, pz8, Nat.reduceAdd, Nat.reduceBEq, ↓reduceIte, Act.put]
        simp only [h14]
        rw [if_pos (by rfl)]
        go_simp
        exact hK _ _ (Up.refl _) rfl
      · intro x w1 K hU hS hO hd hK
        have h14 : (x 14).v = .bool true := kval (hd 14 (by decide)).1 rfl
        obtain ⟨k0, k1, -⟩ := cells2 ((Up.tr (up_drew _) (hS.upb rfl)).blk Tz)
        clear hd
        refine ⟨?_⟩; simp only [kgoal, putsFrom, depsOf, pu0, pu1, pu2, pu3, pz0, pz1, pz2, pz3, pz4, pz5, pz6, pz7, pz8, Nat.reduceAdd, Nat.reduceBEq, ↓reduceIte, Act.put]
        simp only [h14]
        rw [if_pos (by rfl)]
        go_simp
        exact hK _ _ (Up.refl _) rfl
      · intro x w1 K hU hS hO hd hK
        have h15 : (x 15).v = .agg #[.bool bm, .slice aom nm capm] := kval (hd 15 (by decide)).1 rfl
        have h16 : (x 16).v = .agg #[.bool bz, .slice aoz nz capz] := kval (hd 16 (by decide)).1 rfl
        have h14 : (x 14).v = .bool true := kval (hd 14 (by decide)).1 rfl
        clear hd
        refine ⟨?_⟩; simp only [kgoal, putsFrom, depsOf, pu0, pu1, pu2, pu3, pz0, pz1, pz2, pz3, pz4, pz5, pz6, pz7, pz8, Nat.reduceAdd, Nat.reduceBEq, ↓reduceIte, Act.put]
        simp only [h15, h16, h14]
        rw [if_pos (by rfl)]
        go_simp
        refine (cmp_rd (M := 70368744175621) (((unhide Cm).rd (M' := 70368744175621) (by omega)).up (Up.tr (up_drew _) (hS.upb rfl))) (((unhide Cz).rd (M' := 70368744175621) (by omega)).up (Up.tr (up_drew _) (hS.upb rfl)))).mono ?_
        rintro e w2 ⟨v2, rfl, n2, u2⟩
        rw [hM1] at n2
        exact hK _ _ u2 n2
      · intro x w1 K hU hS hO hd hK
        have h17 : (x 17).v = .int .i64 (0) := kval (hd 17 (by decide)).1 rfl
        have h14 : (x 14).v = .bool true := kval (hd 14 (by decide)).1 rfl
        clear hd
        refine ⟨?_⟩; simp only [kgoal, putsFrom, depsOf, pu0, pu1, pu2, pu3, pz0, pz1, pz2, pz3, pz4, pz5, pz6, pz7, pz8, Nat.reduceAdd, Nat.reduceBEq, ↓reduceIte, Act.put]
        simp only [h17, h14]
        rw [if_pos (by rfl)]
        go_simp
        exact hK _ _ (Up.refl _) rfl
      · intro x w1 K hU hS hO hd hK
        have h18 : (x 18).v = .bool true := kval (hd 18 (by decide)).1 rfl
        have h14 : (x 14).v = .bool true := kval (hd 14 (by decide)).1 rfl
        clear hd
        refine ⟨?_⟩; simp only [kgoal, putsFrom, depsOf, pu0, pu1, pu2, pu3, pz0, pz1, pz2, pz3, pz4, pz5, pz6, pz7, pz8, Nat.reduceAdd, Nat.reduceBEq, ↓reduceIte, Act.put]
        simp only [h18, h14]
        rw [if_pos (by rfl)]
        go_simp
        exact hK _ _ (Up.refl _) rfl
      · intro x w1 K hU hS hO hd hK
        have h19 : (x 19).v = .bool true := kval (hd 19 (by decide)).1 rfl
        clear hd
        refine ⟨?_⟩; simp only [kgoal, putsFrom, depsOf, pu0, pu1, pu2, pu3, pz0, pz1, pz2, pz3, pz4, pz5, pz6, pz7, pz8, Nat.reduceAdd, Nat.reduceBEq, ↓reduceIte, Act.put]
        simp only [h19]
        rw [if_neg (by intro h; cases h)]
        exact hK _ _ (Up.refl _) rfl
      · intro x w1 K hU hS hO hd hK
        have h19 : (x 19).v = .bool true := kval (hd 19 (by decide)).1 rfl
        clear hd
        refine ⟨?_⟩; simp only [kgoal, putsFrom, depsOf, pu0, pu1, pu2, pu3, pz0, pz1, pz2, pz3, pz4, pz5, pz6, pz7, pz8, Nat.reduceAdd, Nat.reduceBEq, ↓reduceIte, Act.put]
        simp only [h19]
        rw [if_neg (by intro h; cases h)]
        exact hK _ _ (Up.refl _) rfl
      · intro x w1 K hU hS hO hd hK
        have h20 : (x 20).v = undef := kval (hd 20 (by decide)).1 rfl
        have h21 : (x 21).v = undef := kval (hd 21 (by decide)).1 rfl
        have h19 : (x 19).v = .bool true := kval (hd 19 (by decide)).1 rfl
        clear hd
        refine ⟨?_⟩; simp only [kgoal, putsFrom, depsOf, pu0, pu1, pu2, pu3, pz0, pz1, pz2, pz3, pz4, pz5, pz6, pz7, pz8, Nat.reduceAdd, Nat.reduceBEq, ↓reduceIte, Act.put]
        simp only [h20, h21, h19]
        rw [if_neg (by intro h; cases h)]
        exact hK _ _ (Up.refl _) rfl
      · intro x w1 K hU hS hO hd hK
        have h22 : (x 22).v = undef := kval (hd 22 (by decide)).1 rfl
        have h19 : (x 19).v = .bool true := kval (hd 19 (by decide)).1 rfl
        clear hd
        refine ⟨?_⟩; simp only [kgoal, putsFrom, depsOf, pu0, pu1, pu2, pu3, pz0, pz1, pz2, pz3, pz4, pz5, pz6, pz7, pz8, Nat.reduceAdd, Nat.reduceBEq, ↓reduceIte, Act.put]
        simp only [h22, h19]
        rw [if_neg (by intro h; cases h)]
        exact hK _ _ (Up.refl _) rfl
      · intro x w1 K hU hS hO hd hK
        have h19 : (x 19).v = .bool true := kval (hd 19 (by decide)).1 rfl
        clear hd
        refine ⟨?_⟩; simp only [kgoal, putsFrom, depsOf, pu0, pu1, pu2, pu3, pz0, pz1, pz2, pz3, pz4, pz5, pz6, pz7, pz8, Nat.reduceAdd, Nat.reduceBEq, ↓reduceIte, Act.put]
        simp only [h19]
        rw [if_neg (by intro h; cases h)]
        exact hK _ _ (Up.refl _) rfl
      · intro x w1 K hU hS hO hd hK
        have h23 : (x 23).v = undef := kval (hd 23 (by decide)).1 rfl
        have h24 : (x 24).v = undef := kval (hd 24 (by decide)).1 rfl
        have h19 : (x 19).v = .bool true := kval (hd 19 (by decide)).1 rfl
        clear hd
        refine ⟨?_⟩; simp only [kgoal, putsFrom, depsOf, pu0, pu1, pu2, pu3, pz0, pz1, pz2, pz3, pz4, pz5, pz6, pz7, pz8, Nat.reduceAdd, Nat.reduceBEq, ↓reduceIte, Act.put]
        simp only [h23, h24, h19]
        rw [if_neg (by intro h; cases h)]
        exact hK _ _ (Up.refl _) rfl
      · intro x w1 K hU hS hO hd hK
        have h19 : (x 19).v = .bool true := kval (hd 19 (by decide)).1 rfl
        have h25 : (x 25).v = undef := kval (hd 25 (by decide)).1 rfl
        have h14 : (x 14).v = .bool true := kval (hd 14 (by decide)).1 rfl
        clear hd
        refine ⟨?_⟩; simp only [kgoal, putsFrom, depsOf, pu0, pu1, pu2, pu3, pz0, pz1, pz2, pz3, pz4, pz5, pz6, pz7, pz8, Nat.reduceAdd, Nat.reduceBEq, ↓reduceIte, Act.put]
        simp only [h19, h25, h14]
        rw [if_pos (by rfl)]
        go_simp
        exact hK _ _ (Up.refl _) rfl
      · intro x w1 K hU hS hO hd hK
        have h14 : (x 14).v = .bool true := kval (hd 14 (by decide)).1 rfl
        have h26 : (x 26).v = .bool true := kval (hd 26 (by decide)).1 rfl
        clear hd
        refine ⟨?_⟩; simp only [kgoal, putsFrom, depsOf, pu0, pu1, pu2, pu3, pz0, pz1, pz2, pz3, pz4, pz5, pz6, pz7, pz8, Nat.reduceAdd, Nat.reduceBEq, ↓reduceIte, Act.put]
        simp only [h14, h26]
        go_simp
        exact hK _ _ (Up.refl _) rfl
      · intro x w1 K hU hS hO hd hK
        have h27 : (x 27).v = .bool true := kval (hd 27 (by decide)).1 rfl
        clear hd
        refine ⟨?_⟩; simp only [kgoal, putsFrom, depsOf, pu0, pu1, pu2, pu3, pz0, pz1, pz2, pz3, pz4, pz5, pz6, pz7, pz8, Nat.reduceAdd, Nat.reduceBEq, ↓reduceIte, Act.put]
        simp only [h27]
        go_simp
        exact hK _ _ (Up.refl _) rfl
      intro x w1 hU hS hR hlo hdis
      have hfin : (x 28).v = .bool true := kval (hR 28 (by decide)) rfl
      have hG := Up.tr (up_drew _) (hS.upb rfl)
      refine ⟨?_⟩; simp only [kgoal, putsFrom, depsOf, pu0, pu1, pu2, pu3, pz0, pz1, pz2, pz3, pz4, pz5, pz6, pz7, pz8, Nat.reduceAdd, Nat.reduceBEq, ↓reduceIte, Act.put]
      rw [hfin]
      generalize (x 0).v = z0l
      generalize (x 1).v = z1l
      generalize (x 2).v = z2l
      generalize (x 3).v = z3l
      generalize (x 4).v = z4l
      generalize (x 5).v = z5l
      generalize (x 6).v = z6l
      generalize (x 7).v = z7l
      generalize (x 8).v = z8l
      generalize (x 9).v = z9l
      generalize (x 10).v = z10l
      generalize (x 11).v = z11l
      generalize (x 12).v = z12l
      generalize (x 13).v = z13l
      generalize (x 14).v = z14l
      generalize (x 15).v = z15l
      generalize (x 16).v = z16l
      generalize (x 17).v = z17l
      generalize (x 18).v = z18l
      generalize (x 19).v = z19l
      generalize (x 20).v = z20l
      generalize (x 21).v = z21l
      generalize (x 22).v = z22l
      generalize (x 23).v = z23l
      generalize (x 24).v = z24l
      generalize (x 25).v = z25l
      generalize (x 26).v = z26l
      generalize (x 27).v = z27l
      clear hR hlo hdis hS hfin
      go_wp2_with (go_at_call 20; refine (awake_any _ ((unhide HT).up hU)).mono ?_; rintro e w9 ⟨rfl, u9⟩)
      go_ret
      exact ⟨rfl, hU.tr u9⟩

    · refine wp_region_knd (by kernel_rfl) w V3 [[], [], [0, 1], [2], [3], [4], [4], [5, 6, 4], [4], [8, 4], [4], [9, 10, 4], [7, 11, 4], [4, 12], [13], [14], [14], [15, 16, 14], [17, 14], [18, 14], [19], [19], [20, 21, 19], [22, 19], [19], [23, 24, 19], [19, 25, 14], [14, 26], [27]] [.val [] (fun _ g _ => g.v = .agg #[.bool br, .slice aor nr capr]), .val [] (fun _ g _ => g.v = .agg #[.bool bz, .slice aoz nz capz]), .val [] (fun _ g _ => g.v = .int .i64 (sR)), .val [] (fun _ g _ => g.v = .bool false), .val [] (fun _ g _ => g.v = .bool false), .val [] (fun _ g _ => g.v = .agg #[.bool br, .slice aor nr capr]), .val [] (fun _ g _ => g.v = .agg #[.bool bz, .slice aoz nz capz]), .val [] (fun _ g _ => g.v = .int .i64 (sR)), .val [] (fun _ g _ => g.v = .agg #[.bool ba, .slice aoa na capa]), .val [] (fun w g _ => NumD (Xa) (na) w g.lo g.hi g.v), .val [] (fun _ g _ => g.v = .agg #[.bool bz, .slice aoz nz capz]), .val [] (fun _ g _ => g.v = .int .i64 (sR)), .val [] (fun _ g _ => g.v = .bool true), .val [] (fun _ g _ => g.v = .bool true), .val [] (fun _ g _ => g.v = .bool true), .val [] (fun _ g _ => g.v = .agg #[.bool bm, .slice aom nm capm]), .val [] (fun _ g _ => g.v = .agg #[.bool bz, .slice aoz nz capz]), .val [] (fun _ g _ => g.v = .int .i64 (-1)), .val [] (fun _ g _ => g.v = .bool false), .val [] (fun _ g _ => g.v = .bool false), .val [] (fun _ g _ => g.v = .agg #[.bool bm, .slice aom nm capm]), .val [] (fun _ g _ => g.v = .agg #[.bool bz, .slice aoz nz capz]), .val [] (fun _ g _ => g.v = .int .i64 (-1)), .val [] (fun _ g _ => g.v = .bool true), .val [] (fun _ g _ => g.v = .bool true), .val [] (fun _ g _ => g.v = .bool true), .val [] (fun _ g _ => g.v = .bool true), .val [] (fun _ g _ => g.v = .bool true), .val [] (fun _ g _ => g.v = .bool true)] (by kernel_rfl) (by kernel_rfl) rfl ⟨trivial, trivial, trivial, trivial, trivial, trivial, trivial, trivial, trivial, trivial, trivial, trivial, trivial, trivial, trivial, trivial, trivial, trivial, trivial, trivial, trivial, trivial, trivial, trivial, trivial, trivial, trivial, trivial, trivial, trivial⟩ ⟨fun _ _ _ _ _ h => h, fun _ _ _ _ _ h => h, fun _ _ _ _ _ h => h, fun _ _ _ _ _ h => h, fun _ _ _ _ _ h => h, fun _ _ _ _ _ h => h, fun _ _ _ _ _ h => h, fun _ _ _ _ _ h => h, fun _ _ _ _ _ h => h, fun _ _ _ _ hb h => h.keep hb, fun _ _ _ _ _ h => h, fun _ _ _ _ _ h => h, fun _ _ _ _ _ h => h, fun _ _ _ _ _ h => h, fun _ _ _ _ _ h => h, fun _ _ _ _ _ h => h, fun _ _ _ _ _ h => h, fun _ _ _ _ _ h => h, fun _ _ _ _ _ h => h, fun _ _ _ _ _ h => h, fun _ _ _ _ _ h => h, fun _ _ _ _ _ h => h, fun _ _ _ _ _ h => h, fun _ _ _ _ _ h => h, fun _ _ _ _ _ h => h, fun _ _ _ _ _ h => h, fun _ _ _ _ _ h => h, fun _ _ _ _ _ h => h, fun _ _ _ _ _ h => h, trivial⟩ ⟨?_, ?_, ?_, ?_, ?_, ?_, ?_, ?_, ?_, ?_, ?_, ?_, ?_, ?_, ?_, ?_, ?_, ?_, ?_, ?_, ?_, ?_, ?_, ?_, ?_, ?_, ?_, ?_, ?_, trivial⟩ ?_
      · intro x w1 K hU hS hO hd hK
        obtain ⟨k0, k1, -⟩ := cells2 ((Up.tr (up_drew _) (hS.upb rfl)).blk Tr)
        clear hd
        refine ⟨?_⟩; simp only [kgoal, putsFrom, depsOf, pu0, pu1, pu2, pu3, pz0, pz1, pz2, pz3, pz4, pz5, pz6, pz7, pz8, Nat.reduceAdd, Nat.reduceBEq, ↓reduceIte, Act.put]
        go_simp
        exact hK _ _ (Up.refl _) rfl
      · intro x w1 K hU hS hO hd hK
        obtain ⟨k0, k1, -⟩ := cells2 ((Up.tr (up_drew _) (hS.upb rfl)).blk Tz)
        clear hd
        refine ⟨?_⟩; simp only [kgoal, putsFrom, depsOf, pu0, pu1, pu2, pu3, pz0, pz1, pz2, pz3, pz4, pz5, pz6, pz7, pz8, Nat.reduceAdd, Nat.reduceBEq, ↓reduceIte, Act.put]
        go_simp
        exact hK _ _ (Up.refl _) rfl
      · intro x w1 K hU hS hO hd hK
        have h0 : (x 0).v = .agg #[.bool br, .slice aor nr capr] := kval (hd 0 (by decide)).1 rfl
        have h1 : (x 1).v = .agg #[.bool bz, .slice aoz nz capz] := kval (hd 1 (by decide)).1 rfl
        clear hd
        refine ⟨?_⟩; simp only [kgoal, putsFrom, depsOf, pu0, pu1, pu2, pu3, pz0, pz1, pz2, pz3, pz4, pz5, pz6, pz7, pz8, Nat.reduceAdd, Nat.reduceBEq, ↓reduceIte, Act.put]
        simp only [h0, h1]
        go_simp
        refine (cmp_rd (M := 70368744175621) (((unhide Cr).rd (M' := 70368744175621) (by omega)).up (Up.tr (up_drew _) (hS.upb rfl))) (((unhide Cz).rd (M' := 70368744175621) (by omega)).up (Up.tr (up_drew _) (hS.upb rfl)))).mono ?_
        rintro e w2 ⟨v2, rfl, n2, u2⟩
        rw [hR1] at n2
        exact hK _ _ u2 n2
      · intro x w1 K hU hS hO hd hK
        have h2 : (x 2).v = .int .i64 (sR) := kval (hd 2 (by decide)).1 rfl
        clear hd
        refine ⟨?_⟩; simp only [kgoal, putsFrom, depsOf, pu0, pu1, pu2, pu3, pz0, pz1, pz2, pz3, pz4, pz5, pz6, pz7, pz8, Nat.reduceAdd, Nat.reduceBEq, ↓reduceIte, Act.put]
        simp only [h2]
        go_simp
        exact hK _ _ (Up.refl _) rfl
      · intro x w1 K hU hS hO hd hK
        have h3 : (x 3).v = .bool false := kval (hd 3 (by decide)).1 rfl
        clear hd
        refine ⟨?_⟩; simp only [kgoal, putsFrom, depsOf, pu0, pu1, pu2, pu3, pz0, pz1, pz2, pz3, pz4, pz5, pz6, pz7, pz8, Nat.reduceAdd, Nat.reduceBEq, ↓reduceIte, Act.put]
        simp only [h3]
        go_simp
        exact hK _ _ (Up.refl _) rfl
      · intro x w1 K hU hS hO hd hK
        have h4 : (x 4).v = .bool false := kval (hd 4 (by decide)).1 rfl
        obtain ⟨k0, k1, -⟩ := cells2 ((Up.tr (up_drew _) (hS.upb rfl)).blk Tr)
        clear hd
        refine ⟨?_⟩; simp only [kgoal, putsFrom, depsOf, pu0, pu1, pu2, pu3, pz0, pz1, pz2, pz3, pz4, pz5, pz6, pz7, pz8, Nat.reduceAdd, Nat.reduceBEq, ↓reduceIte, Act.put]
        simp only [h4]
        rw [if_pos (by rfl)]
        go_simp
        exact hK _ _ (Up.refl _) rfl
      · intro x w1 K hU hS hO hd hK
        have h4 : (x 4).v = .bool false := kval (hd 4 (by decide)).1 rfl
        obtain ⟨k0, k1, -⟩ := cells2 ((Up.tr (up_drew _) (hS.upb rfl)).blk Tz)
        clear hd
        refine ⟨?_⟩; simp only [kgoal, putsFrom, depsOf, pu0, pu1, pu2, pu3, pz0, pz1, pz2, pz3, pz4, pz5, pz6, pz7, pz8, Nat.reduceAdd, Nat.reduceBEq, ↓reduceIte, Act.put]
        simp only [h4]
        rw [if_pos (by rfl)]
        go_simp
        exact hK _ _ (Up.refl _) rfl
      · intro x w1 K hU hS hO hd hK
        have h5 : (x 5).v = .agg #[.bool br, .slice aor nr capr] := kval (hd 5 (by decide)).1 rfl
        have h6 : (x 6).v = .agg #[.bool bz, .slice aoz nz capz] := kval (hd 6 (by decide)).1 rfl
        have h4 : (x 4).v = .bool false := kval (hd 4 (by decide)).1 rfl
        clear hd
        refine ⟨?_⟩; simp only [kgoal, putsFrom, depsOf, pu0, pu1, pu2, pu3, pz0, pz1, pz2, pz3, pz4, pz5, pz6, pz7, pz8, Nat.reduceAdd, Nat.reduceBEq, ↓reduceIte, Act.put]
        simp only [h5, h6, h4]
        rw [if_pos (by rfl)]
        go_simp
        refine (cmp_rd (M := 70368744175621) (((unhide Cr).rd (M' := 70368744175621) (by omega)).up (Up.tr (up_drew _) (hS.upb rfl))) (((unhide Cz).rd (M' := 70368744175621) (by omega)).up (Up.tr (up_drew _) (hS.upb rfl)))).mono ?_
        rintro e w2 ⟨v2, rfl, n2, u2⟩
        rw [hR1] at n2
        exact hK _ _ u2 n2
      · intro x w1 K hU hS hO hd hK
        have h4 : (x 4).v = .bool false := kval (hd 4 (by decide)).1 rfl
        obtain ⟨k0, k1, -⟩ := cells2 ((B3.tr (Up.tr (up_drew _) (hS.upb rfl))).blk (unhide K3).1)
        clear hd
        refine ⟨?_⟩; simp only [kgoal, putsFrom, depsOf, pu0, pu1, pu2, pu3, pz0, pz1, pz2, pz3, pz4, pz5, pz6, pz7, pz8, Nat.reduceAdd, Nat.reduceBEq, ↓reduceIte, Act.put]
        simp only [h4]
        rw [if_pos (by rfl)]
        go_simp
        exact hK _ _ (Up.refl _) rfl
      · intro x w1 K hU hS hO hd hK
        have h8 : (x 8).v = .agg #[.bool ba, .slice aoa na capa] := kval (hd 8 (by decide)).1 rfl
        have h4 : (x 4).v = .bool false := kval (hd 4 (by decide)).1 rfl
        clear hd
        refine ⟨?_⟩; simp only [kgoal, putsFrom, depsOf, pu0, pu1, pu2, pu3, pz0, pz1, pz2, pz3, pz4, pz5, pz6, pz7, pz8, Nat.reduceAdd, Nat.reduceBEq, ↓reduceIte, Act.put]
        simp only [h8, h4]
        rw [if_pos (by rfl)]
        go_simp
        refine (c_rd (M := na) (((unhide Ra).up hU)) (by omega)).mono ?_
        rintro e w2 ⟨v2, rfl, n2, u2⟩
        exact hK _ _ u2 n2
      · intro x w1 K hU hS hO hd hK
        have h4 : (x 4).v = .bool false := kval (hd 4 (by decide)).1 rfl
        obtain ⟨k0, k1, -⟩ := cells2 ((Up.tr (up_drew _) (hS.upb rfl)).blk Tz)
        clear hd
        refine ⟨?_⟩; simp only [kgoal, putsFrom, depsOf, pu0, pu1, pu2, pu3, pz0, pz1, pz2, pz3, pz4, pz5, pz6, pz7, pz8, Nat.reduceAdd, Nat.reduceBEq, ↓reduceIte, Act.put]
        simp only [h4]
        rw [if_pos (by rfl)]
        go_simp
        exact hK _ _ (Up.refl _) rfl
      · intro x w1 K hU hS hO hd hK
        have h9 : NumD (Xa) (na) w1 (x 9).lo (x 9).hi (x 9).v := kval (hd 9 (by decide)).1 rfl
        have h10 : (x 10).v = .agg #[.bool bz, .slice aoz nz capz] := kval (hd 10 (by decide)).1 rfl
        have h4 : (x 4).v = .bool false := kval (hd 4 (by decide)).1 rfl
        clear hd
        refine ⟨?_⟩; simp only [kgoal, putsFrom, depsOf, pu0, pu1, pu2, pu3, pz0, pz1, pz2, pz3, pz4, pz5, pz6, pz7, pz8, Nat.reduceAdd, Nat.reduceBEq, ↓reduceIte, Act.put]
        simp only [h10, h4]
        rw [if_pos (by rfl)]
        go_simp
        refine (cmp_rd (M := 70368744175621) (h9.rd (by omega)) (((unhide Cz).rd (M' := 70368744175621) (by omega)).up (Up.tr (up_drew _) (hS.upb rfl)))).mono ?_
        rintro e w2 ⟨v2, rfl, n2, u2⟩
        rw [hR2] at n2
        exact hK _ _ u2 n2
      · intro x w1 K hU hS hO hd hK
        have h7 : (x 7).v = .int .i64 (sR) := kval (hd 7 (by decide)).1 rfl
        have h11 : (x 11).v = .int .i64 (sR) := kval (hd 11 (by decide)).1 rfl
        have h4 : (x 4).v = .bool false := kval (hd 4 (by decide)).1 rfl
        clear hd
        refine ⟨?_⟩; simp only [kgoal, putsFrom, depsOf, pu0, pu1, pu2, pu3, pz0, pz1, pz2, pz3, pz4, pz5, pz6, pz7, pz8, Nat.reduceAdd, Nat.reduceBEq, ↓reduceIte, Act.put]
        simp only [h7, h11, h4]
        rw [if_pos (by rfl)]
        go_simp
        exact hK _ _ (Up.refl _) rfl
      · intro x w1 K hU hS hO hd hK
        have h4 : (x 4).v = .bool false := kval (hd 4 (by decide)).1 rfl
        have h12 : (x 12).v = .bool true := kval (hd 12 (by decide)).1 rfl
        clear hd
        refine ⟨?_⟩; simp only [kgoal, putsFrom, depsOf, pu0, pu1, pu2, pu3, pz0, pz1, pz2, pz3, pz4, pz5, pz6, pz7, pz8, Nat.reduceAdd, Nat.reduceBEq, ↓reduceIte, Act.put]
        simp only [h4, h12]
        go_simp
        exact hK _ _ (Up.refl _) rfl
      · intro x w1 K hU hS hO hd hK
        have h13 : (x 13).v = .bool true := kval (hd 13 (by decide)).1 rfl
        clear hd
        refine ⟨?_⟩; simp only [kgoal, putsFrom, depsOf, pu0, pu1, pu2, pu3, pz0, pz1, pz2, pz3, pz4, pz5, pz6, pz7, pz8, Nat.reduceAdd, Nat.reduceBEq, ↓reduceIte, Act.put]
        simp only [h13]
        go_simp
        exact hK _ _ (Up.refl _) rfl
      · intro x w1 K hU hS hO hd hK
        have h14 : (x 14).v = .bool true := kval (hd 14 (by decide)).1 rfl
        obtain ⟨k0, k1, -⟩ := cells2 ((Up.tr (up_drew _) (hS.upb rfl)).blk Tm)
        clear hd
        refine ⟨?_⟩; simp only [kgoal, putsFrom, depsOf, pu0, pu1, pu2, pu3, pz0, pz1, pz2, pz3, pz4, pz5, pz6, pz7, pz8, Nat.reduceAdd, Nat.reduceBEq, ↓reduceIte, Act.put]
        simp only [h14]
        rw [if_pos (by rfl)]
        go_simp
        exact hK _ _ (Up.refl _) rfl
      · intro x w1 K hU hS hO hd hK
        have h14 : (x 14).v = .bool true := kval (hd 14 (by decide)).1 rfl
        obtain ⟨k0, k1, -⟩ := cells2 ((Up.tr (up_drew _) (hS.upb rfl)).blk Tz)
        clear hd
        refine ⟨?_⟩; simp only [kgoal, putsFrom, depsOf, pu0, pu1, pu2, pu3, pz0, pz1, pz2, pz3, pz4, pz5, pz6, pz7, pz8, Nat.reduceAdd, Nat.reduceBEq, ↓reduceIte, Act.put]
        simp only [h14]
        rw [if_pos (by rfl)]
        go_simp
        exact hK _ _ (Up.refl _) rfl
      · intro x w1 K hU hS hO hd hK
        have h15 : (x 15).v = .agg #[.bool bm, .slice aom nm capm] := kval (hd 15 (by decide)).1 rfl
        have h16 : (x 16).v = .agg #[.bool bz, .slice aoz nz capz] := kval (hd 16 (by decide)).1 rfl
        have h14 : (x 14).v = .bool true := kval (hd 14 (by decide)).1 rfl
        clear hd
        refine ⟨?_⟩; simp only [kgoal, putsFrom, depsOf, pu0, pu1, pu2, pu3, pz0, pz1, pz2, pz3, pz4, pz5, pz6, pz7, pz8, Nat.reduceAdd, Nat.reduceBEq, ↓reduceIte, Act.put]
        simp only [h15, h16, h14]
        rw [if_pos (by rfl)]
        go_simp
        refine (cmp_rd (M := 70368744175621) (((unhide Cm).rd (M' := 70368744175621) (by omega)).up (Up.tr (up_drew _) (hS.upb rfl))) (((unhide Cz).rd (M' := 70368744175621) (by omega)).up (Up.tr (up_drew _) (hS.upb rfl)))).mono ?_
        rintro e w2 ⟨v2, rfl, n2, u2⟩
        rw [hM1] at n2
        exact hK _ _ u2 n2
      · intro x w1 K hU hS hO hd hK
        have h17 : (x 17).v = .int .i64 (-1) := kval (hd 17 (by decide)).1 rfl
        have h14 : (x 14).v = .bool true := kval (hd 14 (by decide)).1 rfl
        clear hd
        refine ⟨?_⟩; simp only [kgoal, putsFrom, depsOf, pu0, pu1, pu2, pu3, pz0, pz1, pz2, pz3, pz4, pz5, pz6, pz7, pz8, Nat.reduceAdd, Nat.reduceBEq, ↓reduceIte, Act.put]
        simp only [h17, h14]
        rw [if_pos (by rfl)]
        go_simp
        exact hK _ _ (Up.refl _) rfl
      · intro x w1 K hU hS hO hd hK
        have h18 : (x 18).v = .bool false := kval (hd 18 (by decide)).1 rfl
        have h14 : (x 14).v = .bool true := kval (hd 14 (by decide)).1 rfl
        clear hd
        refine ⟨?_⟩; simp only [kgoal, putsFrom, depsOf, pu0, pu1, pu2, pu3, pz0, pz1, pz2, pz3, pz4, pz5, pz6, pz7, pz8, Nat.reduceAdd, Nat.reduceBEq, ↓reduceIte, Act.put]
        simp only [h18, h14]
        rw [if_pos (by rfl)]
        go_simp
        exact hK _ _ (Up.refl _) rfl
      · intro x w1 K hU hS hO hd hK
        have h19 : (x 19).v = .bool false := kval (hd 19 (by decide)).1 rfl
        obtain ⟨k0, k1, -⟩ := cells2 ((Up.tr (up_drew _) (hS.upb rfl)).blk Tm)
        clear hd
        refine ⟨?_⟩; simp only [kgoal, putsFrom, depsOf, pu0, pu1, pu2, pu3, pz0, pz1, pz2, pz3, pz4, pz5, pz6, pz7, pz8, Nat.reduceAdd, Nat.reduceBEq, ↓reduceIte, Act.put]
        simp only [h19]
        rw [if_pos (by rfl)]
        go_simp
        exact hK _ _ (Up.refl _) rfl
      · intro x w1 K hU hS hO hd hK
        have h19 : (x 19).v = .bool false := kval (hd 19 (by decide)).1 rfl
        obtain ⟨k0, k1, -⟩ := cells2 ((Up.tr (up_drew _) (hS.upb rfl)).blk Tz)
        clear hd
        refine ⟨?_⟩; simp only [kgoal, putsFrom, depsOf, pu0, pu1, pu2, pu3, pz0, pz1, pz2, pz3, pz4, pz5, pz6, pz7, pz8, Nat.reduceAdd, Nat.reduceBEq, ↓reduceIte, Act.put]
        simp only [h19]
        rw [if_pos (by rfl)]
        go_simp
        exact hK _ _ (Up.refl _) rfl
      · intro x w1 K hU hS hO hd hK
        have h20 : (x 20).v = .agg #[.bool bm, .slice aom nm capm] := kval (hd 20 (by decide)).1 rfl
        have h21 : (x 21).v = .agg #[.bool bz, .slice aoz nz capz] := kval (hd 21 (by decide)).1 rfl
        have h19 : (x 19).v = .bool false := kval (hd 19 (by decide)).1 rfl
        clear hd
        refine ⟨?_⟩; simp only [kgoal, putsFrom, depsOf, pu0, pu1, pu2, pu3, pz0, pz1, pz2, pz3, pz4, pz5, pz6, pz7, pz8, Nat.reduceAdd, Nat.reduceBEq, ↓reduceIte, Act.put]
        simp only [h20, h21, h19]
        rw [if_pos (by rfl)]
        go_simp
        refine (cmp_rd (M := 70368744175621) (((unhide Cm).rd (M' := 70368744175621) (by omega)).up (Up.tr (up_drew _) (hS.upb rfl))) (((unhide Cz).rd (M' := 70368744175621) (by omega)).up (Up.tr (up_drew _) (hS.upb rfl)))).mono ?_
        rintro e w2 ⟨v2, rfl, n2, u2⟩
        rw [hM1] at n2
        exact hK _ _ u2 n2
      · intro x w1 K hU hS hO hd hK
        have h22 : (x 22).v = .int .i64 (-1) := kval (hd 22 (by decide)).1 rfl
        have h19 : (x 19).v = .bool false := kval (hd 19 (by decide)).1 rfl
        clear hd
        refine ⟨?_⟩; simp only [kgoal, putsFrom, depsOf, pu0, pu1, pu2, pu3, pz0, pz1, pz2, pz3, pz4, pz5, pz6, pz7, pz8, Nat.reduceAdd, Nat.reduceBEq, ↓reduceIte, Act.put]
        simp only [h22, h19]
        rw [if_pos (by rfl)]
        go_simp
        exact hK _ _ (Up.refl _) rfl
      · intro x w1 K hU hS hO hd hK
        have h19 : (x 19).v = .bool false := kval (hd 19 (by decide)).1 rfl
        clear hd
        refine ⟨?_⟩; simp only [kgoal, putsFrom, depsOf, pu0, pu1, pu2, pu3, pz0, pz1, pz2, pz3, pz4, pz5, pz6, pz7, pz8, Nat.reduceAdd, Nat.reduceBEq, ↓reduceIte, Act.put]
        simp only [h19]
        rw [if_pos (by rfl)]
        go_simp
        exact hK _ _ (Up.refl _) rfl
      · intro x w1 K hU hS hO hd hK
        have h23 : (x 23).v = .bool true := kval (hd 23 (by decide)).1 rfl
        have h24 : (x 24).v = .bool true := kval (hd 24 (by decide)).1 rfl
        have h19 : (x 19).v = .bool false := kval (hd 19 (by decide)).1 rfl
        clear hd
        refine ⟨?_⟩; simp only [kgoal, putsFrom, depsOf, pu0, pu1, pu2, pu3, pz0, pz1, pz2, pz3, pz4, pz5, pz6, pz7, pz8, Nat.reduceAdd, Nat.reduceBEq, ↓reduceIte, Act.put]
        simp only [h23, h24, h19]
        rw [if_pos (by rfl)]
        go_simp
        exact hK _ _ (Up.refl _) rfl
      · intro x w1 K hU hS hO hd hK
        have h19 : (x 19).v = .bool false := kval (hd 19 (by decide)).1 rfl
        have h25 : (x 25).v = .bool true := kval (hd 25 (by decide)).1 rfl
        have h14 : (x 14).v = .bool true := kval (hd 14 (by decide)).1 rfl
        clear hd
        refine ⟨?_⟩; simp only [kgoal, putsFrom, depsOf, pu0, pu1, pu2, pu3, pz0, pz1, pz2, pz3, pz4, pz5, pz6, pz7, pz8, Nat.reduceAdd, Nat.reduceBEq, ↓reduceIte, Act.put]
        simp only [h19, h25, h14]
        rw [if_pos (by rfl)]
        go_simp
        exact hK _ _ (Up.refl _) rfl
      · intro x w1 K hU hS hO hd hK
        have h14 : (x 14).v = .bool true := kval (hd 14 (by decide)).1 rfl
        have h26 : (x 26).v = .bool true := kval (hd 26 (by decide)).1 rfl
        clear hd
        refine ⟨?_⟩; simp only [kgoal, putsFrom, depsOf, pu0, pu1, pu2, pu3, pz0, pz1, pz2, pz3, pz4, pz5, pz6, pz7, pz8, Nat.reduceAdd, Nat.reduceBEq, ↓reduceIte, Act.put]
        simp only [h14, h26]
        go_simp
        exact hK _ _ (Up.refl _) rfl
      · intro x w1 K hU hS hO hd hK
        have h27 : (x 27).v = .bool true := kval (hd 27 (by decide)).1 rfl
        clear hd
        refine ⟨?_⟩; simp only [kgoal, putsFrom, depsOf, pu0, pu1, pu2, pu3, pz0, pz1, pz2, pz3, pz4, pz5, pz6, pz7, pz8, Nat.reduceAdd, Nat.reduceBEq, ↓reduceIte, Act.put]
        simp only [h27]
        go_simp
        exact hK _ _ (Up.refl _) rfl
      intro x w1 hU hS hR hlo hdis
      have hfin : (x 28).v = .bool true := kval (hR 28 (by decide)) rfl
      have hG := Up.tr (up_drew _) (hS.upb rfl)
      refine ⟨?_⟩; simp only [kgoal, putsFrom, depsOf, pu0, pu1, pu2, pu3, pz0, pz1, pz2, pz3, pz4, pz5, pz6, pz7, pz8, Nat.reduceAdd, Nat.reduceBEq, ↓reduceIte, Act.put]
      rw [hfin]
      generalize (x 0).v = z0l
      generalize (x 1).v = z1l
      generalize (x 2).v = z2l
      generalize (x 3).v = z3l
      generalize (x 4).v = z4l
      generalize (x 5).v = z5l
      generalize (x 6).v = z6l
      generalize (x 7).v = z7l
      generalize (x 8).v = z8l
      generalize (x 9).v = z9l
      generalize (x 10).v = z10l
      generalize (x 11).v = z11l
      generalize (x 12).v = z12l
      generalize (x 13).v = z13l
      generalize (x 14).v = z14l
      generalize (x 15).v = z15l
      generalize (x 16).v = z16l
      generalize (x 17).v = z17l
      generalize (x 18).v = z18l
      generalize (x 19).v = z19l
      generalize (x 20).v = z20l
      generalize (x 21).v = z21l
      generalize (x 22).v = z22l
      generalize (x 23).v = z23l
      generalize (x 24).v = z24l
      generalize (x 25).v = z25l
      generalize (x 26).v = z26l
      generalize (x 27).v = z27l
      clear hR hlo hdis hS hfin
      go_wp2_with (go_at_call 20; refine (awake_any _ ((unhide HT).up hU)).mono ?_; rintro e w9 ⟨rfl, u9⟩)
      go_ret
      exact ⟨rfl, hU.tr u9⟩

  · have hz : cmpZ Xb 0 = 0 := by rw [hb]; rfl
    obtain rfl : ok = false := by rw [unhide HOK, hb]; rfl
    go_wp2_with fail
    refine wp_region_knd (by kernel_rfl) w V3 [[], [0], [], [1, 2], [3]] [.val [] (fun _ g _ => g.v = .agg #[.bool bb, .slice aob nb capb]), .val [] (fun w g _ => NumD (Xb) (nb) w g.lo g.hi g.v), .val [] (fun _ g _ => g.v = .agg #[.bool bz, .slice aoz nz capz]), .val [] (fun _ g _ => g.v = .int .i64 (0)), .val [] (fun _ g _ => g.v = .bool true)] (by kernel_rfl) (by kernel_rfl) rfl ⟨trivial, trivial, trivial, trivial, trivial, trivial⟩ ⟨fun _ _ _ _ _ h => h, fun _ _ _ _ hb h => h.keep hb, fun _ _ _ _ _ h => h, fun _ _ _ _ _ h => h, fun _ _ _ _ _ h => h, trivial⟩ ⟨?_, ?_, ?_, ?_, ?_, trivial⟩ ?_
    · intro x w1 K hU hS hO hd hK
      obtain ⟨k0, k1, -⟩ := cells2 ((B3.tr (Up.tr (up_drew _) (hS.upb rfl))).blk (unhide K3).2)
      clear hd
      refine ⟨?_⟩; simp only [kgoal, putsFrom, depsOf, pu0, pu1, pu2, pu3, pz0, pz1, pz2, pz3, pz4, pz5, pz6, pz7, pz8, Nat.reduceAdd, Nat.reduceBEq, ↓reduceIte, Act.put]
      go_simp
      exact hK _ _ (Up.refl _) rfl
    · intro x w1 K hU hS hO hd hK
      have h0 : (x 0).v = .agg #[.bool bb, .slice aob nb capb] := kval (hd 0 (by decide)).1 rfl
      clear hd
      refine ⟨?_⟩; simp only [kgoal, putsFrom, depsOf, pu0, pu1, pu2, pu3, pz0, pz1, pz2, pz3, pz4, pz5, pz6, pz7, pz8, Nat.reduceAdd, Nat.reduceBEq, ↓reduceIte, Act.put]
      simp only [h0]
      go_simp
      refine (c_rd (M := nb) (((unhide Rb).up hU)) (by omega)).mono ?_
      rintro e w2 ⟨v2, rfl, n2, u2⟩
      exact hK _ _ u2 n2
    · intro x w1 K hU hS hO hd hK
      obtain ⟨k0, k1, -⟩ := cells2 ((Up.tr (up_drew _) (hS.upb rfl)).blk Tz)
      clear hd
      refine ⟨?_⟩; simp only [kgoal, putsFrom, depsOf, pu0, pu1, pu2, pu3, pz0, pz1, pz2, pz3, pz4, pz5, pz6, pz7, pz8, Nat.reduceAdd, Nat.reduceBEq, ↓reduceIte, Act.put]
      go_simp
      exact hK _ _ (Up.refl _) rfl
    · intro x w1 K hU hS hO hd hK
      have h1 : NumD (Xb) (nb) w1 (x 1).lo (x 1).hi (x 1).v := kval (hd 1 (by decide)).1 rfl
      have h2 : (x 2).v = .agg #[.bool bz, .slice aoz nz capz] := kval (hd 2 (by decide)).1 rfl
      clear hd
      refine ⟨?_⟩; simp only [kgoal, putsFrom, depsOf, pu0, pu1, pu2, pu3, pz0, pz1, pz2, pz3, pz4, pz5, pz6, pz7, pz8, Nat.reduceAdd, Nat.reduceBEq, ↓reduceIte, Act.put]
      simp only [h2]
      go_simp
      refine (cmp_rd (M := 35184372087808) (h1.rd (by omega)) (((unhide Cz).rd (M' := 35184372087808) (by omega)).up (Up.tr (up_drew _) (hS.upb rfl)))).mono ?_
      rintro e w2 ⟨v2, rfl, n2, u2⟩
      rw [hz] at n2
      exact hK _ _ u2 n2
    · intro x w1 K hU hS hO hd hK
      have h3 : (x 3).v = .int .i64 (0) := kval (hd 3 (by decide)).1 rfl
      clear hd
      refine ⟨?_⟩; simp only [kgoal, putsFrom, depsOf, pu0, pu1, pu2, pu3, pz0, pz1, pz2, pz3, pz4, pz5, pz6, pz7, pz8, Nat.reduceAdd, Nat.reduceBEq, ↓reduceIte, Act.put]
      simp only [h3]
      go_simp
      exact hK _ _ (Up.refl _) rfl
    intro x w1 hU hS hR hlo hdis
    have hfin : (x 4).v = .bool true := kval (hR 4 (by decide)) rfl
    have hG := Up.tr (up_drew _) (hS.upb rfl)
    refine ⟨?_⟩; simp only [kgoal, putsFrom, depsOf, pu0, pu1, pu2, pu3, pz0, pz1, pz2, pz3, pz4, pz5, pz6, pz7, pz8, Nat.reduceAdd, Nat.reduceBEq, ↓reduceIte, Act.put]
    rw [hfin]
    generalize (x 0).v = z0e
    generalize (x 1).v = z1e
    generalize (x 2).v = z2e
    generalize (x 3).v = z3e
    clear hR hlo hdis hS hfin
    go_wp2_with (go_at_call 20; refine (awake_any _ ((unhide HT).up hU)).mono ?_; rintro e w9 ⟨rfl, u9⟩)
    go_ret
    exact ⟨rfl, hU.tr u9⟩

  · have hz : cmpZ Xb 0 = 1 := cmpZ_gt hb
    obtain rfl : ok = true := by rw [unhide HOK]; simp; omega
    have HM := hide (makes_eq Xa Xb (by omega))
    go_wp2_with fail
    refine wp_region_knd (by kernel_rfl) w V3 [[], [0], [], [1, 2], [3]] [.val [] (fun _ g _ => g.v = .agg #[.bool bb, .slice aob nb capb]), .val [] (fun w g _ => NumD (Xb) (nb) w g.lo g.hi g.v), .val [] (fun _ g _ => g.v = .agg #[.bool bz, .slice aoz nz capz]), .val [] (fun _ g _ => g.v = .int .i64 (1)), .val [] (fun _ g _ => g.v = .bool false)] (by kernel_rfl) (by kernel_rfl) rfl ⟨trivial, trivial, trivial, trivial, trivial, trivial⟩ ⟨fun _ _ _ _ _ h => h, fun _ _ _ _ hb h => h.keep hb, fun _ _ _ _ _ h => h, fun _ _ _ _ _ h => h, fun _ _ _ _ _ h => h, trivial⟩ ⟨?_, ?_, ?_, ?_, ?_, trivial⟩ ?_
    · intro x w1 K hU hS hO hd hK
      obtain ⟨k0, k1, -⟩ := cells2 ((B3.tr (Up.tr (up_drew _) (hS.upb rfl))).blk (unhide K3).2)
      clear hd
      refine ⟨?_⟩; simp only [kgoal, putsFrom, depsOf, pu0, pu1, pu2, pu3, pz0, pz1, pz2, pz3, pz4, pz5, pz6, pz7, pz8, Nat.reduceAdd, Nat.reduceBEq, ↓reduceIte, Act.put]
      go_simp
      exact hK _ _ (Up.refl _) rfl
    · intro x w1 K hU hS hO hd hK
      have h0 : (x 0).v = .agg #[.bool bb, .slice aob nb capb] := kval (hd 0 (by decide)).1 rfl
      clear hd
      refine ⟨?_⟩; simp only [kgoal, putsFrom, depsOf, pu0, pu1, pu2, pu3, pz0, pz1, pz2, pz3, pz4, pz5, pz6, pz7, pz8, Nat.reduceAdd, Nat.reduceBEq, ↓reduceIte, Act.put]
      simp only [h0]
      go_simp
      refine (c_rd (M := nb) (((unhide Rb).up hU)) (by omega)).mono ?_
      rintro e w2 ⟨v2, rfl, n2, u2⟩
      exact hK _ _ u2 n2
    · intro x w1 K hU hS hO hd hK
      obtain ⟨k0, k1, -⟩ := cells2 ((Up.tr (up_drew _) (hS.upb rfl)).blk Tz)
      clear hd
      refine ⟨?_⟩; simp only [kgoal, putsFrom, depsOf, pu0, pu1, pu2, pu3, pz0, pz1, pz2, pz3, pz4, pz5, pz6, pz7, pz8, Nat.reduceAdd, Nat.reduceBEq, ↓reduceIte, Act.put]
      go_simp
      exact hK _ _ (Up.refl _) rfl
    · intro x w1 K hU hS hO hd hK
      have h1 : NumD (Xb) (nb) w1 (x 1).lo (x 1).hi (x 1).v := kval (hd 1 (by decide)).1 rfl
      have h2 : (x 2).v = .agg #[.bool bz, .slice aoz nz capz] := kval (hd 2 (by decide)).1 rfl
      clear hd
      refine ⟨?_⟩; simp only [kgoal, putsFrom, depsOf, pu0, pu1, pu2, pu3, pz0, pz1, pz2, pz3, pz4, pz5, pz6, pz7, pz8, Nat.reduceAdd, Nat.reduceBEq, ↓reduceIte, Act.put]
      simp only [h2]
      go_simp
      refine (cmp_rd (M := 35184372087808) (h1.rd (by omega)) (((unhide Cz).rd (M' := 35184372087808) (by omega)).up (Up.tr (up_drew _) (hS.upb rfl)))).mono ?_
      rintro e w2 ⟨v2, rfl, n2, u2⟩
      rw [hz] at n2
      exact hK _ _ u2 n2
    · intro x w1 K hU hS hO hd hK
      have h3 : (x 3).v = .int .i64 (1) := kval (hd 3 (by decide)).1 rfl
      clear hd
      refine ⟨?_⟩; simp only [kgoal, putsFrom, depsOf, pu0, pu1, pu2, pu3, pz0, pz1, pz2, pz3, pz4, pz5, pz6, pz7, pz8, Nat.reduceAdd, Nat.reduceBEq, ↓reduceIte, Act.put]
      simp only [h3]
      go_simp
      exact hK _ _ (Up.refl _) rfl
    intro x w1 hU hS hR hlo hdis
    have hfin : (x 4).v = .bool false := kval (hR 4 (by decide)) rfl
    have hG := Up.tr (up_drew _) (hS.upb rfl)
    refine ⟨?_⟩; simp only [kgoal, putsFrom, depsOf, pu0, pu1, pu2, pu3, pz0, pz1, pz2, pz3, pz4, pz5, pz6, pz7, pz8, Nat.reduceAdd, Nat.reduceBEq, ↓reduceIte, Act.put]
    rw [hfin]
    generalize (x 0).v = z0e
    generalize (x 1).v = z1e
    generalize (x 2).v = z2e
    generalize (x 3).v = z3e
    clear hR hlo hdis hS hfin
    have V3 := hU
    have B3 := B3.tr hG
    replace Tq := hG.blk Tq
    replace Cq := hide ((unhide Cq).up hG)
    replace Tr := hG.blk Tr
    replace Cr := hide ((unhide Cr).up hG)
    replace Tf := hG.blk Tf
    replace Cf := hide ((unhide Cf).up hG)
    replace Tm := hG.blk Tm
    replace Cm := hide ((unhide Cm).up hG)
    replace Tz := hG.blk Tz
    replace Cz := hide ((unhide Cz).up hG)
    clear hG
    go_wp2_with fail
    refine wp_region_knd (by kernel_rfl) w V3 [[], [0], [1], [2], [3, 2], [2, 4], [5], [6], [6], [8, 6], [7, 9, 6], [10, 7, 9, 6], [6], [11, 12, 6], [13, 11, 12, 6], [6], [15, 6], [14, 16, 6], [17, 6], [6, 18], [19], [20], [20], [22, 20], [21, 23, 20], [24, 21, 23, 20], [20], [25, 26, 20], [27, 25, 26, 20], [20], [29, 20], [28, 30, 20], [31, 20], [20, 32]] (Knd.val [] (fun _ g _ => g.v = .bool true) :: Knd.val [] (fun _ g _ => g.v = .bool false) :: Knd.val [] (fun _ g _ => g.v = .bool false) :: Knd.val [] (fun _ g _ => g.v = .bool true) :: Knd.val [] (fun _ g _ => g.v = .bool false) :: Knd.val [] (fun _ g _ => g.v = .bool false) :: Knd.val [] (fun _ g _ => g.v = .bool false) :: Knd.val [] (fun _ g _ => g.v = .agg #[.bool bq, .slice aoq nq capq]) :: Knd.val [] (fun _ g _ => g.v = .agg #[.bool bb, .slice aob nb capb]) :: Knd.val [] (fun w g _ => NumD (Xb) (nb) w g.lo g.hi g.v) :: Knd.val [7, 9] (fun w g vs => Pair2 w g vs) :: Knd.val [] (fun w g _ => NumIn ((Int.tdiv Xa Xb) * Xb) ((35184372087808 + 1) + (nb)) w g.lo g.hi g.v) :: Knd.val [] (fun _ g _ => g.v = .agg #[.bool br, .slice aor nr capr]) :: Knd.val [11, 12] (fun w g vs => Pair2 w g vs) :: Knd.val [] (fun w g _ => NumIn (((Int.tdiv Xa Xb) * Xb) + (rz Xa Xb)) (70368744175620 + 1) w g.lo g.hi g.v) :: Knd.val [] (fun _ g _ => g.v = .agg #[.bool ba, .slice aoa na capa]) :: Knd.val [] (fun w g _ => NumD (Xa) (na) w g.lo g.hi g.v) :: Knd.val [] (fun _ g _ => g.v = .int .i64 (0)) :: Knd.val [] (fun _ g _ => g.v = .bool false) :: Knd.val [] (fun _ g _ => g.v = .bool false) :: Knd.val [] (fun _ g _ => g.v = .bool false) :: Knd.val [] (fun _ g _ => g.v = .agg #[.bool bf, .slice aof nf capf]) :: Knd.val [] (fun _ g _ => g.v = .agg #[.bool bb, .slice aob nb capb]) :: Knd.val [] (fun w g _ => NumD (Xb) (nb) w g.lo g.hi g.v) :: Knd.val [21, 23] (fun w g vs => Pair2 w g vs) :: Knd.val [] (fun w g _ => NumIn ((Int.fdiv Xa Xb) * Xb) ((35184372087808 + 2) + (nb)) w g.lo g.hi g.v) :: Knd.val [] (fun _ g _ => g.v = .agg #[.bool bm, .slice aom nm capm]) :: Knd.val [25, 26] (fun w g vs => Pair2 w g vs) :: Knd.val [] (fun w g _ => NumIn (((Int.fdiv Xa Xb) * Xb) + (if Xb = 0 then 0 else Int.fmod Xa Xb)) (70368744175620 + 1) w g.lo g.hi g.v) :: Knd.val [] (fun _ g _ => g.v = .agg #[.bool ba, .slice aoa na capa]) :: Knd.val [] (fun w g _ => NumD (Xa) (na) w g.lo g.hi g.v) :: Knd.val [] (fun _ g _ => g.v = .int .i64 (0)) :: Knd.val [] (fun _ g _ => g.v = .bool false) :: Knd.val [] (fun _ g _ => g.v = .bool false) :: []) (by kernel_rfl) (by kernel_rfl) rfl ⟨trivial, trivial, trivial, trivial, trivial, trivial, trivial, trivial, trivial, trivial, trivial, trivial, trivial, trivial, trivial, trivial, trivial, trivial, trivial, trivial, trivial, trivial, trivial, trivial, trivial, trivial, trivial, trivial, trivial, trivial, trivial, trivial, trivial, trivial, trivial⟩ ⟨fun _ _ _ _ _ h => h, fun _ _ _ _ _ h => h, fun _ _ _ _ _ h => h, fun _ _ _ _ _ h => h, fun _ _ _ _ _ h => h, fun _ _ _ _ _ h => h, fun _ _ _ _ _ h => h, fun _ _ _ _ _ h => h, fun _ _ _ _ _ h => h, fun _ _ _ _ hb h => h.keep hb, fun _ _ _ _ hb h => h.keep hb, fun _ _ _ _ hb h => h.keep hb, fun _ _ _ _ _ h => h, fun _ _ _ _ hb h => h.keep hb, fun _ _ _ _ hb h => h.keep hb, fun _ _ _ _ _ h => h, fun _ _ _ _ hb h => h.keep hb, fun _ _ _ _ _ h => h, fun _ _ _ _ _ h => h, fun _ _ _ _ _ h => h, fun _ _ _ _ _ h => h, fun _ _ _ _ _ h => h, fun _ _ _ _ _ h => h, fun _ _ _ _ hb h => h.keep hb, fun _ _ _ _ hb h => h.keep hb, fun _ _ _ _ hb h => h.keep hb, fun _ _ _ _ _ h => h, fun _ _ _ _ hb h => h.keep hb, fun _ _ _ _ hb h => h.keep hb, fun _ _ _ _ _ h => h, fun _ _ _ _ hb h => h.keep hb, fun _ _ _ _ _ h => h, fun _ _ _ _ _ h => h, fun _ _ _ _ _ h => h, trivial⟩ ⟨?_, ?_, ?_, ?_, ?_, ?_, ?_, ?_, ?_, ?_, ?_, ?_, ?_, ?_, ?_, ?_, ?_, ?_, ?_, ?_, ?_, ?_, ?_, ?_, ?_, ?_, ?_, ?_, ?_, ?_, ?_, ?_, ?_, ?_, trivial⟩ ?_
    · intro x w1 K hU hS hO hd hK
      clear hd
      refine ⟨?_⟩; simp only [kgoal, putsFrom, depsOf, pu0, pu1, pu2, pu3, pz0, pz1, pz2, pz3, pz4, pz5, pz6, pz7, pz8, Nat.reduceAdd, Nat.reduceBEq, ↓reduceIte, Act.put]
      go_simp
      exact hK _ _ (Up.refl _) rfl
    · intro x w1 K hU hS hO hd hK
      have h0 : (x 0).v = .bool true := kval (hd 0 (by decide)).1 rfl
      clear hd
      refine ⟨?_⟩; simp only [kgoal, putsFrom, depsOf, pu0, pu1, pu2, pu3, pz0, pz1, pz2, pz3, pz4, pz5, pz6, pz7, pz8, Nat.reduceAdd, Nat.reduceBEq, ↓reduceIte, Act.put]
      simp only [h0]
      go_simp
      exact hK _ _ (Up.refl _) rfl
    · intro x w1 K hU hS hO hd hK
      have h1 : (x 1).v = .bool false := kval (hd 1 (by decide)).1 rfl
      clear hd
      refine ⟨?_⟩; simp only [kgoal, putsFrom, depsOf, pu0, pu1, pu2, pu3, pz0, pz1, pz2, pz3, pz4, pz5, pz6, pz7, pz8, Nat.reduceAdd, Nat.reduceBEq, ↓reduceIte, Act.put]
      simp only [h1]
      go_simp
      exact hK _ _ (Up.refl _) rfl
    · intro x w1 K hU hS hO hd hK
      have h2 : (x 2).v = .bool false := kval (hd 2 (by decide)).1 rfl
      clear hd
      refine ⟨?_⟩; simp only [kgoal, putsFrom, depsOf, pu0, pu1, pu2, pu3, pz0, pz1, pz2, pz3, pz4, pz5, pz6, pz7, pz8, Nat.reduceAdd, Nat.reduceBEq, ↓reduceIte, Act.put]
      simp only [h2]
      rw [if_pos (by rfl)]
      go_simp
      exact hK _ _ (Up.refl _) rfl
    · intro x w1 K hU hS hO hd hK
      have h3 : (x 3).v = .bool true := kval (hd 3 (by decide)).1 rfl
      have h2 : (x 2).v = .bool false := kval (hd 2 (by decide)).1 rfl
      clear hd
      refine ⟨?_⟩; simp only [kgoal, putsFrom, depsOf, pu0, pu1, pu2, pu3, pz0, pz1, pz2, pz3, pz4, pz5, pz6, pz7, pz8, Nat.reduceAdd, Nat.reduceBEq, ↓reduceIte, Act.put]
      simp only [h3, h2]
      rw [if_pos (by rfl)]
      go_simp
      exact hK _ _ (Up.refl _) rfl
    · intro x w1 K hU hS hO hd hK
      have h2 : (x 2).v = .bool false := kval (hd 2 (by decide)).1 rfl
      have h4 : (x 4).v = .bool false := kval (hd 4 (by decide)).1 rfl
      clear hd
      refine ⟨?_⟩; simp only [kgoal, putsFrom, depsOf, pu0, pu1, pu2, pu3, pz0, pz1, pz2, pz3, pz4, pz5, pz6, pz7, pz8, Nat.reduceAdd, Nat.reduceBEq, ↓reduceIte, Act.put]
      simp only [h2, h4]
      go_simp
      exact hK _ _ (Up.refl _) rfl
    · intro x w1 K hU hS hO hd hK
      have h5 : (x 5).v = .bool false := kval (hd 5 (by decide)).1 rfl
      clear hd
      refine ⟨?_⟩; simp only [kgoal, putsFrom, depsOf, pu0, pu1, pu2, pu3, pz0, pz1, pz2, pz3, pz4, pz5, pz6, pz7, pz8, Nat.reduceAdd, Nat.reduceBEq, ↓reduceIte, Act.put]
      simp only [h5]
      go_simp
      exact hK _ _ (Up.refl _) rfl
    · intro x w1 K hU hS hO hd hK
      have h6 : (x 6).v = .bool false := kval (hd 6 (by decide)).1 rfl
      obtain ⟨k0, k1, -⟩ := cells2 ((Up.tr (up_drew _) (hS.upb rfl)).blk Tq)
      clear hd
      refine ⟨?_⟩; simp only [kgoal, putsFrom, depsOf, pu0, pu1, pu2, pu3, pz0, pz1, pz2, pz3, pz4, pz5, pz6, pz7, pz8, Nat.reduceAdd, Nat.reduceBEq, ↓reduceIte, Act.put]
      simp only [h6]
      rw [if_pos (by rfl)]
      go_simp
      exact hK _ _ (Up.refl _) rfl
    · intro x w1 K hU hS hO hd hK
      have h6 : (x 6).v = .bool false := kval (hd 6 (by decide)).1 rfl
      obtain ⟨k0, k1, -⟩ := cells2 ((B3.tr (Up.tr (up_drew _) (hS.upb rfl))).blk (unhide K3).2)
      clear hd
      refine ⟨?_⟩; simp only [kgoal, putsFrom, depsOf, pu0, pu1, pu2, pu3, pz0, pz1, pz2, pz3, pz4, pz5, pz6, pz7, pz8, Nat.reduceAdd, Nat.reduceBEq, ↓reduceIte, Act.put]
      simp only [h6]
      rw [if_pos (by rfl)]
      go_simp
      exact hK _ _ (Up.refl _) rfl
    · intro x w1 K hU hS hO hd hK
      have h8 : (x 8).v = .agg #[.bool bb, .slice aob nb capb] := kval (hd 8 (by decide)).1 rfl
      have h6 : (x 6).v = .bool false := kval (hd 6 (by decide)).1 rfl
      clear hd
      refine ⟨?_⟩; simp only [kgoal, putsFrom, depsOf, pu0, pu1, pu2, pu3, pz0, pz1, pz2, pz3, pz4, pz5, pz6, pz7, pz8, Nat.reduceAdd, Nat.reduceBEq, ↓reduceIte, Act.put]
      simp only [h8, h6]
      rw [if_pos (by rfl)]
      go_simp
      refine (c_rd (M := nb) (((unhide Rb).up hU)) (by omega)).mono ?_
      rintro e w2 ⟨v2, rfl, n2, u2⟩
      exact hK _ _ u2 n2
    · intro x w1 K hU hS hO hd hK
      have h7 : (x 7).v = .agg #[.bool bq, .slice aoq nq capq] := kval (hd 7 (by decide)).1 rfl
      have h9 : NumD (Xb) (nb) w1 (x 9).lo (x 9).hi (x 9).v := kval (hd 9 (by decide)).1 rfl
      have h6 : (x 6).v = .bool false := kval (hd 6 (by decide)).1 rfl
      obtain ⟨pb, qb, rb, tb, eb⟩ := (h9.rd (Nat.le_refl _)).agg
      clear hd
      refine ⟨?_⟩; simp only [kgoal, putsFrom, depsOf, pu0, pu1, pu2, pu3, pz0, pz1, pz2, pz3, pz4, pz5, pz6, pz7, pz8, Nat.reduceAdd, Nat.reduceBEq, ↓reduceIte, Act.put]
      simp only [h7, eb, h6]
      rw [if_pos (by rfl)]
      go_simp
      exact hK _ _ (up_alloc _ _) ⟨rfl, by show w1.heap.size < (w1.alloc _).heap.size; simp, _, _, _, _, by show [(x 7).v, (x 9).v] = _; rw [h7, eb], heap_alloc_new w1 _⟩
    · intro x w1 K hU hS hO hd hK
      have h10 : Pair2 w1 (x 10) [(x 7).v, (x 9).v] := kval (hd 10 (by decide)).1 rfl
      have h7 : (x 7).v = .agg #[.bool bq, .slice aoq nq capq] := kval (hd 7 (by decide)).1 rfl
      have h9 : NumD (Xb) (nb) w1 (x 9).lo (x 9).hi (x 9).v := kval (hd 9 (by decide)).1 rfl
      have h6 : (x 6).v = .bool false := kval (hd 6 (by decide)).1 rfl
      obtain ⟨ep, -, b1, v1, b2, v2, ql, hb⟩ := h10
      have ea := (List.cons.inj ql).1
      have eb := (List.cons.inj (List.cons.inj ql).2).1
      rw [h7] at ea
      cases ea
      rw [eb] at h9
      clear hd
      refine ⟨?_⟩; simp only [kgoal, putsFrom, depsOf, pu0, pu1, pu2, pu3, pz0, pz1, pz2, pz3, pz4, pz5, pz6, pz7, pz8, Nat.reduceAdd, Nat.reduceBEq, ↓reduceIte, Act.put]
      simp only [ep, h7, h6]
      rw [if_pos (by rfl)]
      go_simp
      refine (mul2_rd (M1 := 35184372087808 + 1) (M2 := nb) hb (((unhide Cq).rd (M' := 35184372087808 + 1) (by omega)).up (Up.tr (up_drew _) (hS.upb rfl))) (h9.rd (by omega)) (by omega)).mono ?_
      rintro e w2 ⟨v2, rfl, n2, u2⟩
      exact hK _ _ u2 n2
    · intro x w1 K hU hS hO hd hK
      have h6 : (x 6).v = .bool false := kval (hd 6 (by decide)).1 rfl
      obtain ⟨k0, k1, -⟩ := cells2 ((Up.tr (up_drew _) (hS.upb rfl)).blk Tr)
      clear hd
      refine ⟨?_⟩; simp only [kgoal, putsFrom, depsOf, pu0, pu1, pu2, pu3, pz0, pz1, pz2, pz3, pz4, pz5, pz6, pz7, pz8, Nat.reduceAdd, Nat.reduceBEq, ↓reduceIte, Act.put]
      simp only [h6]
      rw [if_pos (by rfl)]
      go_simp
      exact hK _ _ (Up.refl _) rfl
    · intro x w1 K hU hS hO hd hK
      have h11 : NumIn ((Int.tdiv Xa Xb) * Xb) ((35184372087808 + 1) + (nb)) w1 (x 11).lo (x 11).hi (x 11).v := kval (hd 11 (by decide)).1 rfl
      have h12 : (x 12).v = .agg #[.bool br, .slice aor nr capr] := kval (hd 12 (by decide)).1 rfl
      have h6 : (x 6).v = .bool false := kval (hd 6 (by decide)).1 rfl
      obtain ⟨pa, qa, ra, ta, ea⟩ := (h11.rd (Nat.le_refl _)).agg
      clear hd
      refine ⟨?_⟩; simp only [kgoal, putsFrom, depsOf, pu0, pu1, pu2, pu3, pz0, pz1, pz2, pz3, pz4, pz5, pz6, pz7, pz8, Nat.reduceAdd, Nat.reduceBEq, ↓reduceIte, Act.put]
      simp only [ea, h12, h6]
      rw [if_pos (by rfl)]
      go_simp
      exact hK _ _ (up_alloc _ _) ⟨rfl, by show w1.heap.size < (w1.alloc _).heap.size; simp, _, _, _, _, by show [(x 11).v, (x 12).v] = _; rw [ea, h12], heap_alloc_new w1 _⟩
    · intro x w1 K hU hS hO hd hK
      have h13 : Pair2 w1 (x 13) [(x 11).v, (x 12).v] := kval (hd 13 (by decide)).1 rfl
      have h11 : NumIn ((Int.tdiv Xa Xb) * Xb) ((35184372087808 + 1) + (nb)) w1 (x 11).lo (x 11).hi (x 11).v := kval (hd 11 (by decide)).1 rfl
      have h12 : (x 12).v = .agg #[.bool br, .slice aor nr capr] := kval (hd 12 (by decide)).1 rfl
      have h6 : (x 6).v = .bool false := kval (hd 6 (by decide)).1 rfl
      obtain ⟨ep, -, b1, v1, b2, v2, ql, hb⟩ := h13
      have ea := (List.cons.inj ql).1
      have eb := (List.cons.inj (List.cons.inj ql).2).1
      rw [ea] at h11
      rw [h12] at eb
      cases eb
      clear hd
      refine ⟨?_⟩; simp only [kgoal, putsFrom, depsOf, pu0, pu1, pu2, pu3, pz0, pz1, pz2, pz3, pz4, pz5, pz6, pz7, pz8, Nat.reduceAdd, Nat.reduceBEq, ↓reduceIte, Act.put]
      simp only [ep, h12, h6]
      rw [if_pos (by rfl)]
      go_simp
      refine (add2_rd (M := 70368744175620) hb (h11.rd (by omega)) (((unhide Cr).rd (M' := 70368744175620) (by omega)).up (Up.tr (up_drew _) (hS.upb rfl))) (by omega)).mono ?_
      rintro e w2 ⟨v2, rfl, n2, u2⟩
      exact hK _ _ u2 n2
    · intro x w1 K hU hS hO hd hK
      have h6 : (x 6).v = .bool false := kval (hd 6 (by decide)).1 rfl
      obtain ⟨k0, k1, -⟩ := cells2 ((B3.tr (Up.tr (up_drew _) (hS.upb rfl))).blk (unhide K3).1)
      clear hd
      refine ⟨?_⟩; simp only [kgoal, putsFrom, depsOf, pu0, pu1, pu2, pu3, pz0, pz1, pz2, pz3, pz4, pz5, pz6, pz7, pz8, Nat.reduceAdd, Nat.reduceBEq, ↓reduceIte, Act.put]
      simp only [h6]
      rw [if_pos (by rfl)]
      go_simp
      exact hK _ _ (Up.refl _) rfl
    · intro x w1 K hU hS hO hd hK
      have h15 : (x 15).v = .agg #[.bool ba, .slice aoa na capa] := kval (hd 15 (by decide)).1 rfl
      have h6 : (x 6).v = .bool false := kval (hd 6 (by decide)).1 rfl
      clear hd
      refine ⟨?_⟩; simp only [kgoal, putsFrom, depsOf, pu0, pu1, pu2, pu3, pz0, pz1, pz2, pz3, pz4, pz5, pz6, pz7, pz8, Nat.reduceAdd, Nat.reduceBEq, ↓reduceIte, Act.put]
      simp only [h15, h6]
      rw [if_pos (by rfl)]
      go_simp
      refine (c_rd (M := na) (((unhide Ra).up hU)) (by omega)).mono ?_
      rintro e w2 ⟨v2, rfl, n2, u2⟩
      exact hK _ _ u2 n2
    · intro x w1 K hU hS hO hd hK
      have h14 : NumIn (((Int.tdiv Xa Xb) * Xb) + (rz Xa Xb)) (70368744175620 + 1) w1 (x 14).lo (x 14).hi (x 14).v := kval (hd 14 (by decide)).1 rfl
      have h16 : NumD (Xa) (na) w1 (x 16).lo (x 16).hi (x 16).v := kval (hd 16 (by decide)).1 rfl
      have h6 : (x 6).v = .bool false := kval (hd 6 (by decide)).1 rfl
      clear hd
      refine ⟨?_⟩; simp only [kgoal, putsFrom, depsOf, pu0, pu1, pu2, pu3, pz0, pz1, pz2, pz3, pz4, pz5, pz6, pz7, pz8, Nat.reduceAdd, Nat.reduceBEq, ↓reduceIte, Act.put]
      simp only [h6]
      rw [if_pos (by rfl)]
      go_simp
      refine (cmp_rd (M := 70368744175621) (h14.rd (by omega)) (h16.rd (by omega))).mono ?_
      rintro e w2 ⟨v2, rfl, n2, u2⟩
      rw [(unhide HM).1] at n2
      exact hK _ _ u2 n2
    · intro x w1 K hU hS hO hd hK
      have h17 : (x 17).v = .int .i64 (0) := kval (hd 17 (by decide)).1 rfl
      have h6 : (x 6).v = .bool false := kval (hd 6 (by decide)).1 rfl
      clear hd
      refine ⟨?_⟩; simp only [kgoal, putsFrom, depsOf, pu0, pu1, pu2, pu3, pz0, pz1, pz2, pz3, pz4, pz5, pz6, pz7, pz8, Nat.reduceAdd, Nat.reduceBEq, ↓reduceIte, Act.put]
      simp only [h17, h6]
      rw [if_pos (by rfl)]
      go_simp
      exact hK _ _ (Up.refl _) rfl
    · intro x w1 K hU hS hO hd hK
      have h6 : (x 6).v = .bool false := kval (hd 6 (by decide)).1 rfl
      have h18 : (x 18).v = .bool false := kval (hd 18 (by decide)).1 rfl
      clear hd
      refine ⟨?_⟩; simp only [kgoal, putsFrom, depsOf, pu0, pu1, pu2, pu3, pz0, pz1, pz2, pz3, pz4, pz5, pz6, pz7, pz8, Nat.reduceAdd, Nat.reduceBEq, ↓reduceIte, Act.put]
      simp only [h6, h18]
      go_simp
      exact hK _ _ (Up.refl _) rfl
    · intro x w1 K hU hS hO hd hK
      have h19 : (x 19).v = .bool false := kval (hd 19 (by decide)).1 rfl
      clear hd
      refine ⟨?_⟩; simp only [kgoal, putsFrom, depsOf, pu0, pu1, pu2, pu3, pz0, pz1, pz2, pz3, pz4, pz5, pz6, pz7, pz8, Nat.reduceAdd, Nat.reduceBEq, ↓reduceIte, Act.put]
      simp only [h19]
      go_simp
      exact hK _ _ (Up.refl _) rfl
    · intro x w1 K hU hS hO hd hK
      have h20 : (x 20).v = .bool false := kval (hd 20 (by decide)).1 rfl
      obtain ⟨k0, k1, -⟩ := cells2 ((Up.tr (up_drew _) (hS.upb rfl)).blk Tf)
      clear hd
      refine ⟨?_⟩; simp only [kgoal, putsFrom, depsOf, pu0, pu1, pu2, pu3, pz0, pz1, pz2, pz3, pz4, pz5, pz6, pz7, pz8, Nat.reduceAdd, Nat.reduceBEq, ↓reduceIte, Act.put]
      simp only [h20]
      rw [if_pos (by rfl)]
      go_simp
      exact hK _ _ (Up.refl _) rfl
    · intro x w1 K hU hS hO hd hK
      have h20 : (x 20).v = .bool false := kval (hd 20 (by decide)).1 rfl
      obtain ⟨k0, k1, -⟩ := cells2 ((B3.tr (Up.tr (up_drew _) (hS.upb rfl))).blk (unhide K3).2)
      clear hd
      refine ⟨?_⟩; simp only [kgoal, putsFrom, depsOf, pu0, pu1, pu2, pu3, pz0, pz1, pz2, pz3, pz4, pz5, pz6, pz7, pz8, Nat.reduceAdd, Nat.reduceBEq, ↓reduceIte, Act.put]
      simp only [h20]
      rw [if_pos (by rfl)]
      go_simp
      exact hK _ _ (Up.refl _) rfl
    · intro x w1 K hU hS hO hd hK
      have h22 : (x 22).v = .agg #[.bool bb, .slice aob nb capb] := kval (hd 22 (by decide)).1 rfl
      have h20 : (x 20).v = .bool false := kval (hd 20 (by decide)).1 rfl
      clear hd
      refine ⟨?_⟩; simp only [kgoal, putsFrom, depsOf, pu0, pu1, pu2, pu3, pz0, pz1, pz2, pz3, pz4, pz5, pz6, pz7, pz8, Nat.reduceAdd, Nat.reduceBEq, ↓reduceIte, Act.put]
      simp only [h22, h20]
      rw [if_pos (by rfl)]
      go_simp
      refine (c_rd (M := nb) (((unhide Rb).up hU)) (by omega)).mono ?_
      rintro e w2 ⟨v2, rfl, n2, u2⟩
      exact hK _ _ u2 n2
    · intro x w1 K hU hS hO hd hK
      have h21 : (x 21).v = .agg #[.bool bf, .slice aof nf capf] := kval (hd 21 (by decide)).1 rfl
      have h23 : NumD (Xb) (nb) w1 (x 23).lo (x 23).hi (x 23).v := kval (hd 23 (by decide)).1 rfl
      have h20 : (x 20).v = .bool false := kval (hd 20 (by decide)).1 rfl
      obtain ⟨pb, qb, rb, tb, eb⟩ := (h23.rd (Nat.le_refl _)).agg
      clear hd
      refine ⟨?_⟩; simp only [kgoal, putsFrom, depsOf, pu0, pu1, pu2, pu3, pz0, pz1, pz2, pz3, pz4, pz5, pz6, pz7, pz8, Nat.reduceAdd, Nat.reduceBEq, ↓reduceIte, Act.put]
      simp only [h21, eb, h20]
      rw [if_pos (by rfl)]
      go_simp
      exact hK _ _ (up_alloc _ _) ⟨rfl, by show w1.heap.size < (w1.alloc _).heap.size; simp, _, _, _, _, by show [(x 21).v, (x 23).v] = _; rw [h21, eb], heap_alloc_new w1 _⟩
    · intro x w1 K hU hS hO hd hK
      have h24 : Pair2 w1 (x 24) [(x 21).v, (x 23).v] := kval (hd 24 (by decide)).1 rfl
      have h21 : (x 21).v = .agg #[.bool bf, .slice aof nf capf] := kval (hd 21 (by decide)).1 rfl
      have h23 : NumD (Xb) (nb) w1 (x 23).lo (x 23).hi (x 23).v := kval (hd 23 (by decide)).1 rfl
      have h20 : (x 20).v = .bool false := kval (hd 20 (by decide)).1 rfl
      obtain ⟨ep, -, b1, v1, b2, v2, ql, hb⟩ := h24
      have ea := (List.cons.inj ql).1
      have eb := (List.cons.inj (List.cons.inj ql).2).1
      rw [h21] at ea
      cases ea
      rw [eb] at h23
      clear hd
      refine ⟨?_⟩; simp only [kgoal, putsFrom, depsOf, pu0, pu1, pu2, pu3, pz0, pz1, pz2, pz3, pz4, pz5, pz6, pz7, pz8, Nat.reduceAdd, Nat.reduceBEq, ↓reduceIte, Act.put]
      simp only [ep, h21, h20]
      rw [if_pos (by rfl)]
      go_simp
      refine (mul2_rd (M1 := 35184372087808 + 2) (M2 := nb) hb (((unhide Cf).rd (M' := 35184372087808 + 2) (by omega)).up (Up.tr (up_drew _) (hS.upb rfl))) (h23.rd (by omega)) (by omega)).mono ?_
      rintro e w2 ⟨v2, rfl, n2, u2⟩
      exact hK _ _ u2 n2
    · intro x w1 K hU hS hO hd hK
      have h20 : (x 20).v = .bool false := kval (hd 20 (by decide)).1 rfl
      obtain ⟨k0, k1, -⟩ := cells2 ((Up.tr (up_drew _) (hS.upb rfl)).blk Tm)
      clear hd
      refine ⟨?_⟩; simp only [kgoal, putsFrom, depsOf, pu0, pu1, pu2, pu3, pz0, pz1, pz2, pz3, pz4, pz5, pz6, pz7, pz8, Nat.reduceAdd, Nat.reduceBEq, ↓reduceIte, Act.put]
      simp only [h20]
      rw [if_pos (by rfl)]
      go_simp
      exact hK _ _ (Up.refl _) rfl
    · intro x w1 K hU hS hO hd hK
      have h25 : NumIn ((Int.fdiv Xa Xb) * Xb) ((35184372087808 + 2) + (nb)) w1 (x 25).lo (x 25).hi (x 25).v := kval (hd 25 (by decide)).1 rfl
      have h26 : (x 26).v = .agg #[.bool bm, .slice aom nm capm] := kval (hd 26 (by decide)).1 rfl
      have h20 : (x 20).v = .bool false := kval (hd 20 (by decide)).1 rfl
      obtain ⟨pa, qa, ra, ta, ea⟩ := (h25.rd (Nat.le_refl _)).agg
      clear hd
      refine ⟨?_⟩; simp only [kgoal, putsFrom, depsOf, pu0, pu1, pu2, pu3, pz0, pz1, pz2, pz3, pz4, pz5, pz6, pz7, pz8, Nat.reduceAdd, Nat.reduceBEq, ↓reduceIte, Act.put]
      simp only [ea, h26, h20]
      rw [if_pos (by rfl)]
      go_simp
      exact hK _ _ (up_alloc _ _) ⟨rfl, by show w1.heap.size < (w1.alloc _).heap.size; simp, _, _, _, _, by show [(x 25).v, (x 26).v] = _; rw [ea, h26], heap_alloc_new w1 _⟩
    · intro x w1 K hU hS hO hd hK
      have h27 : Pair2 w1 (x 27) [(x 25).v, (x 26).v] := kval (hd 27 (by decide)).1 rfl
      have h25 : NumIn ((Int.fdiv Xa Xb) * Xb) ((35184372087808 + 2) + (nb)) w1 (x 25).lo (x 25).hi (x 25).v := kval (hd 25 (by decide)).1 rfl
      have h26 : (x 26).v = .agg #[.bool bm, .slice aom nm capm] := kval (hd 26 (by decide)).1 rfl
      have h20 : (x 20).v = .bool false := kval (hd 20 (by decide)).1 rfl
      obtain ⟨ep, -, b1, v1, b2, v2, ql, hb⟩ := h27
      have ea := (List.cons.inj ql).1
      have eb := (List.cons.inj (List.cons.inj ql).2).1
      rw [ea] at h25
      rw [h26] at eb
      cases eb
      clear hd
      refine ⟨?_⟩; simp only [kgoal, putsFrom, depsOf, pu0, pu1, pu2, pu3, pz0, pz1, pz2, pz3, pz4, pz5, pz6, pz7, pz8, Nat.reduceAdd, Nat.reduceBEq, ↓reduceIte, Act.put]
      simp only [ep, h26, h20]
      rw [if_pos (by rfl)]
      go_simp
      refine (add2_rd (M := 70368744175620) hb (h25.rd (by omega)) (((unhide Cm).rd (M' := 70368744175620) (by omega)).up (Up.tr (up_drew _) (hS.upb rfl))) (by omega)).mono ?_
      rintro e w2 ⟨v2, rfl, n2, u2⟩
      exact hK _ _ u2 n2
    · intro x w1 K hU hS hO hd hK
      have h20 : (x 20).v = .bool false := kval (hd 20 (by decide)).1 rfl
      obtain ⟨k0, k1, -⟩ := cells2 ((B3.tr (Up.tr (up_drew _) (hS.upb rfl))).blk (unhide K3).1)
      clear hd
      refine ⟨?_⟩; simp only [kgoal, putsFrom, depsOf, pu0, pu1, pu2, pu3, pz0, pz1, pz2, pz3, pz4, pz5, pz6, pz7, pz8, Nat.reduceAdd, Nat.reduceBEq, ↓reduceIte, Act.put]
      simp only [h20]
      rw [if_pos (by rfl)]
      go_simp
      exact hK _ _ (Up.refl _) rfl
    · intro x w1 K hU hS hO hd hK
      have h29 : (x 29).v = .agg #[.bool ba, .slice aoa na capa] := kval (hd 29 (by decide)).1 rfl
      have h20 : (x 20).v = .bool false := kval (hd 20 (by decide)).1 rfl
      clear hd
      refine ⟨?_⟩; simp only [kgoal, putsFrom, depsOf, pu0, pu1, pu2, pu3, pz0, pz1, pz2, pz3, pz4, pz5, pz6, pz7, pz8, Nat.reduceAdd, Nat.reduceBEq, ↓reduceIte, Act.put]
      simp only [h29, h20]
      rw [if_pos (by rfl)]
      go_simp
      refine (c_rd (M := na) (((unhide Ra).up hU)) (by omega)).mono ?_
      rintro e w2 ⟨v2, rfl, n2, u2⟩
      exact hK _ _ u2 n2
    · intro x w1 K hU hS hO hd hK
      have h28 : NumIn (((Int.fdiv Xa Xb) * Xb) + (if Xb = 0 then 0 else Int.fmod Xa Xb)) (70368744175620 + 1) w1 (x 28).lo (x 28).hi (x 28).v := kval (hd 28 (by decide)).1 rfl
      have h30 : NumD (Xa) (na) w1 (x 30).lo (x 30).hi (x 30).v := kval (hd 30 (by decide)).1 rfl
      have h20 : (x 20).v = .bool false := kval (hd 20 (by decide)).1 rfl
      clear hd
      refine ⟨?_⟩; simp only [kgoal, putsFrom, depsOf, pu0, pu1, pu2, pu3, pz0, pz1, pz2, pz3, pz4, pz5, pz6, pz7, pz8, Nat.reduceAdd, Nat.reduceBEq, ↓reduceIte, Act.put]
      simp only [h20]
      rw [if_pos (by rfl)]
      go_simp
      refine (cmp_rd (M := 70368744175621) (h28.rd (by omega)) (h30.rd (by omega))).mono ?_
      rintro e w2 ⟨v2, rfl, n2, u2⟩
      rw [(unhide HM).2] at n2
      exact hK _ _ u2 n2
    · intro x w1 K hU hS hO hd hK
      have h31 : (x 31).v = .int .i64 (0) := kval (hd 31 (by decide)).1 rfl
      have h20 : (x 20).v = .bool false := kval (hd 20 (by decide)).1 rfl
      clear hd
      refine ⟨?_⟩; simp only [kgoal, putsFrom, depsOf, pu0, pu1, pu2, pu3, pz0, pz1, pz2, pz3, pz4, pz5, pz6, pz7, pz8, Nat.reduceAdd, Nat.reduceBEq, ↓reduceIte, Act.put]
      simp only [h31, h20]
      rw [if_pos (by rfl)]
      go_simp
      exact hK _ _ (Up.refl _) rfl
    · intro x w1 K hU hS hO hd hK
      have h20 : (x 20).v = .bool false := kval (hd 20 (by decide)).1 rfl
      have h32 : (x 32).v = .bool false := kval (hd 32 (by decide)).1 rfl
      clear hd
      refine ⟨?_⟩; simp only [kgoal, putsFrom, depsOf, pu0, pu1, pu2, pu3, pz0, pz1, pz2, pz3, pz4, pz5, pz6, pz7, pz8, Nat.reduceAdd, Nat.reduceBEq, ↓reduceIte, Act.put]
      simp only [h20, h32]
      go_simp
      exact hK _ _ (Up.refl _) rfl
    intro x w1 hU hS hR hlo hdis
    have hfin : (x 33).v = .bool false := kval (hR 33 (by decide)) rfl
    have hG := Up.tr (up_drew _) (hS.upb rfl)
    refine ⟨?_⟩; simp only [kgoal, putsFrom, depsOf, pu0, pu1, pu2, pu3, pz0, pz1, pz2, pz3, pz4, pz5, pz6, pz7, pz8, Nat.reduceAdd, Nat.reduceBEq, ↓reduceIte, Act.put]
    rw [hfin]
    generalize (x 0).v = z0g
    generalize (x 1).v = z1g
    generalize (x 2).v = z2g
    generalize (x 3).v = z3g
    generalize (x 4).v = z4g
    generalize (x 5).v = z5g
    generalize (x 6).v = z6g
    generalize (x 7).v = z7g
    generalize (x 8).v = z8g
    generalize (x 9).v = z9g
    generalize (x 10).v = z10g
    generalize (x 11).v = z11g
    generalize (x 12).v = z12g
    generalize (x 13).v = z13g
    generalize (x 14).v = z14g
    generalize (x 15).v = z15g
    generalize (x 16).v = z16g
    generalize (x 17).v = z17g
    generalize (x 18).v = z18g
    generalize (x 19).v = z19g
    generalize (x 20).v = z20g
    generalize (x 21).v = z21g
    generalize (x 22).v = z22g
    generalize (x 23).v = z23g
    generalize (x 24).v = z24g
    generalize (x 25).v = z25g
    generalize (x 26).v = z26g
    generalize (x 27).v = z27g
    generalize (x 28).v = z28g
    generalize (x 29).v = z29g
    generalize (x 30).v = z30g
    generalize (x 31).v = z31g
    generalize (x 32).v = z32g
    clear hR hlo hdis hS hfin
    have V3 := hU
    have B3 := B3.tr hG
    replace Tq := hG.blk Tq
    replace Cq := hide ((unhide Cq).up hG)
    replace Tr := hG.blk Tr
    replace Cr := hide ((unhide Cr).up hG)
    replace Tf := hG.blk Tf
    replace Cf := hide ((unhide Cf).up hG)
    replace Tm := hG.blk Tm
    replace Cm := hide ((unhide Cm).up hG)
    replace Tz := hG.blk Tz
    replace Cz := hide ((unhide Cz).up hG)
    clear hG
    go_wp2_with fail
    refine wp_region_knd (by kernel_rfl) w V3 [[], [0], [], [1, 2], [3], [4]] [.val [] (fun _ g _ => g.v = .agg #[.bool bb, .slice aob nb capb]), .val [] (fun w g _ => NumD (Xb) (nb) w g.lo g.hi g.v), .val [] (fun _ g _ => g.v = .agg #[.bool bz, .slice aoz nz capz]), .val [] (fun _ g _ => g.v = .int .i64 (1)), .val [] (fun _ g _ => g.v = .bool false), .val [] (fun _ g _ => g.v = .bool false)] (by kernel_rfl) (by kernel_rfl) rfl ⟨trivial, trivial, trivial, trivial, trivial, trivial, trivial⟩ ⟨fun _ _ _ _ _ h => h, fun _ _ _ _ hb h => h.keep hb, fun _ _ _ _ _ h => h, fun _ _ _ _ _ h => h, fun _ _ _ _ _ h => h, fun _ _ _ _ _ h => h, trivial⟩ ⟨?_, ?_, ?_, ?_, ?_, ?_, trivial⟩ ?_
    · intro x w1 K hU hS hO hd hK
      obtain ⟨k0, k1, -⟩ := cells2 ((B3.tr (Up.tr (up_drew _) (hS.upb rfl))).blk (unhide K3).2)
      clear hd
      refine ⟨?_⟩; simp only [kgoal, putsFrom, depsOf, pu0, pu1, pu2, pu3, pz0, pz1, pz2, pz3, pz4, pz5, pz6, pz7, pz8, Nat.reduceAdd, Nat.reduceBEq, ↓reduceIte, Act.put]
      go_simp
      exact hK _ _ (Up.refl _) rfl
    · intro x w1 K hU hS hO hd hK
      have h0 : (x 0).v = .agg #[.bool bb, .slice aob nb capb] := kval (hd 0 (by decide)).1 rfl
      clear hd
      refine ⟨?_⟩; simp only [kgoal, putsFrom, depsOf, pu0, pu1, pu2, pu3, pz0, pz1, pz2, pz3, pz4, pz5, pz6, pz7, pz8, Nat.reduceAdd, Nat.reduceBEq, ↓reduceIte, Act.put]
      simp only [h0]
      go_simp
      refine (c_rd (M := nb) (((unhide Rb).up hU)) (by omega)).mono ?_
      rintro e w2 ⟨v2, rfl, n2, u2⟩
      exact hK _ _ u2 n2
    · intro x w1 K hU hS hO hd hK
      obtain ⟨k0, k1, -⟩ := cells2 ((Up.tr (up_drew _) (hS.upb rfl)).blk Tz)
      clear hd
      refine ⟨?_⟩; simp only [kgoal, putsFrom, depsOf, pu0, pu1, pu2, pu3, pz0, pz1, pz2, pz3, pz4, pz5, pz6, pz7, pz8, Nat.reduceAdd, Nat.reduceBEq, ↓reduceIte, Act.put]
      go_simp
      exact hK _ _ (Up.refl _) rfl
    · intro x w1 K hU hS hO hd hK
      have h1 : NumD (Xb) (nb) w1 (x 1).lo (x 1).hi (x 1).v := kval (hd 1 (by decide)).1 rfl
      have h2 : (x 2).v = .agg #[.bool bz, .slice aoz nz capz] := kval (hd 2 (by decide)).1 rfl
      clear hd
      refine ⟨?_⟩; simp only [kgoal, putsFrom, depsOf, pu0, pu1, pu2, pu3, pz0, pz1, pz2, pz3, pz4, pz5, pz6, pz7, pz8, Nat.reduceAdd, Nat.reduceBEq, ↓reduceIte, Act.put]
      simp only [h2]
      go_simp
      refine (cmp_rd (M := 35184372087808) (h1.rd (by omega)) (((unhide Cz).rd (M' := 35184372087808) (by omega)).up (Up.tr (up_drew _) (hS.upb rfl)))).mono ?_
      rintro e w2 ⟨v2, rfl, n2, u2⟩
      rw [hz] at n2
      exact hK _ _ u2 n2
    · intro x w1 K hU hS hO hd hK
      have h3 : (x 3).v = .int .i64 (1) := kval (hd 3 (by decide)).1 rfl
      clear hd
      refine ⟨?_⟩; simp only [kgoal, putsFrom, depsOf, pu0, pu1, pu2, pu3, pz0, pz1, pz2, pz3, pz4, pz5, pz6, pz7, pz8, Nat.reduceAdd, Nat.reduceBEq, ↓reduceIte, Act.put]
      simp only [h3]
      go_simp
      exact hK _ _ (Up.refl _) rfl
    · intro x w1 K hU hS hO hd hK
      have h4 : (x 4).v = .bool false := kval (hd 4 (by decide)).1 rfl
      clear hd
      refine ⟨?_⟩; simp only [kgoal, putsFrom, depsOf, pu0, pu1, pu2, pu3, pz0, pz1, pz2, pz3, pz4, pz5, pz6, pz7, pz8, Nat.reduceAdd, Nat.reduceBEq, ↓reduceIte, Act.put]
      simp only [h4]
      go_simp
      exact hK _ _ (Up.refl _) rfl
    intro x w1 hU hS hR hlo hdis
    have hfin : (x 5).v = .bool false := kval (hR 5 (by decide)) rfl
    have hG := Up.tr (up_drew _) (hS.upb rfl)
    refine ⟨?_⟩; simp only [kgoal, putsFrom, depsOf, pu0, pu1, pu2, pu3, pz0, pz1, pz2, pz3, pz4, pz5, pz6, pz7, pz8, Nat.reduceAdd, Nat.reduceBEq, ↓reduceIte, Act.put]
    rw [hfin]
    generalize (x 0).v = z0h
    generalize (x 1).v = z1h
    generalize (x 2).v = z2h
    generalize (x 3).v = z3h
    generalize (x 4).v = z4h
    clear hR hlo hdis hS hfin
    have V3 := hU
    have B3 := B3.tr hG
    replace Tq := hG.blk Tq
    replace Cq := hide ((unhide Cq).up hG)
    replace Tr := hG.blk Tr
    replace Cr := hide ((unhide Cr).up hG)
    replace Tf := hG.blk Tf
    replace Cf := hide ((unhide Cf).up hG)
    replace Tm := hG.blk Tm
    replace Cm := hide ((unhide Cm).up hG)
    replace Tz := hG.blk Tz
    replace Cz := hide ((unhide Cz).up hG)
    clear hG
    obtain ⟨c0, c1, -⟩ := cells2 (B3.blk (unhide K3).2)
    go_wp2_with fail
    refine (c_rd (M := nb) ((unhide Rb).up V3) (by omega)).mono ?_
    rintro e w5 ⟨v5, rfl, n5, u5⟩
    obtain ⟨bs, aos, ns, caps, es⟩ := (n5.rd (Nat.le_refl _)).agg
    subst es
    have Ts : (w5.alloc (.cells #[.bool bs, .slice aos ns caps] 26)).heap[w5.heap.size]? = some (.cells #[.bool bs, .slice aos ns caps] 26 (0, 0)) := heap_alloc_new w5 _
    have D5 := u5.tr (up_alloc w5 (.cells #[.bool bs, .slice aos ns caps] 26))
    have h5 := Below.size u5
    have Cs := hide ((n5.rd (Nat.le_refl _)).up (up_alloc w5 (.cells #[.bool bs, .slice aos ns caps] 26)))
    replace V3 := V3.tr D5
    replace B3 := B3.tr D5
    replace Tq := D5.blk Tq
    replace Cq := hide ((unhide Cq).up D5)
    replace Tr := D5.blk Tr
    replace Cr := hide ((unhide Cr).up D5)
    replace Tf := D5.blk Tf
    replace Cf := hide ((unhide Cf).up D5)
    replace Tm := D5.blk Tm
    replace Cm := hide ((unhide Cm).up D5)
    replace Tz := D5.blk Tz
    replace Cz := hide ((unhide Cz).up D5)
    clear n5 u5 D5 c0 c1 h5
    go_wp2_with fail
    have HS := hide (makes_smallP Xa Xb hb)
    have HC := hide (makes_signsP Xa Xb hb)
    refine wp_region_knd (by kernel_rfl) w V3 [[], [], [0, 1], [2], [3], [4], [5, 4], [4], [6, 7, 4], [8, 4], [4, 9], [10], [11], [11], [12, 13, 11], [14, 11], [11, 15], [16], [17], [18, 17], [17], [19, 20, 17], [21, 17], [17, 22], [23]] [.val [] (fun _ g _ => g.v = .agg #[.bool br, .slice aor nr capr]), .val [] (fun _ g _ => g.v = .agg #[.bool bs, .slice aos ns caps]), .val [] (fun _ g _ => g.v = .int .i64 (-1)), .val [] (fun _ g _ => g.v = .bool true), .val [] (fun _ g _ => g.v = .bool true), .val [] (fun _ g _ => g.v = .agg #[.bool br, .slice aor nr capr]), .val [] (fun w g _ => NumIn (-(rz Xa Xb)) (35184372087808 + 1) w g.lo g.hi g.v), .val [] (fun _ g _ => g.v = .agg #[.bool bs, .slice aos ns caps]), .val [] (fun _ g _ => g.v = .int .i64 (-1)), .val [] (fun _ g _ => g.v = .bool true), .val [] (fun _ g _ => g.v = .bool true), .val [] (fun _ g _ => g.v = .bool true), .val [] (fun _ g _ => g.v = .agg #[.bool bm, .slice aom nm capm]), .val [] (fun _ g _ => g.v = .agg #[.bool bs, .slice aos ns caps]), .val [] (fun _ g _ => g.v = .int .i64 (-1)), .val [] (fun _ g _ => g.v = .bool true), .val [] (fun _ g _ => g.v = .bool true), .val [] (fun _ g _ => g.v = .bool true), .val [] (fun _ g _ => g.v = .agg #[.bool bm, .slice aom nm capm]), .val [] (fun w g _ => NumIn (-(if Xb = 0 then 0 else Int.fmod Xa Xb)) (35184372087808 + 2) w g.lo g.hi g.v), .val [] (fun _ g _ => g.v = .agg #[.bool bs, .slice aos ns caps]), .val [] (fun _ g _ => g.v = .int .i64 (-1)), .val [] (fun _ g _ => g.v = .bool true), .val [] (fun _ g _ => g.v = .bool true), .val [] (fun _ g _ => g.v = .bool true)] (by kernel_rfl) (by kernel_rfl) rfl ⟨trivial, trivial, trivial, trivial, trivial, trivial, trivial, trivial, trivial, trivial, trivial, trivial, trivial, trivial, trivial, trivial, trivial, trivial, trivial, trivial, trivial, trivial, trivial, trivial, trivial, trivial⟩ ⟨fun _ _ _ _ _ h => h, fun _ _ _ _ _ h => h, fun _ _ _ _ _ h => h, fun _ _ _ _ _ h => h, fun _ _ _ _ _ h => h, fun _ _ _ _ _ h => h, fun _ _ _ _ hb h => h.keep hb, fun _ _ _ _ _ h => h, fun _ _ _ _ _ h => h, fun _ _ _ _ _ h => h, fun _ _ _ _ _ h => h, fun _ _ _ _ _ h => h, fun _ _ _ _ _ h => h, fun _ _ _ _ _ h => h, fun _ _ _ _ _ h => h, fun _ _ _ _ _ h => h, fun _ _ _ _ _ h => h, fun _ _ _ _ _ h => h, fun _ _ _ _ _ h => h, fun _ _ _ _ hb h => h.keep hb, fun _ _ _ _ _ h => h, fun _ _ _ _ _ h => h, fun _ _ _ _ _ h => h, fun _ _ _ _ _ h => h, fun _ _ _ _ _ h => h, trivial⟩ ⟨?_, ?_, ?_, ?_, ?_, ?_, ?_, ?_, ?_, ?_, ?_, ?_, ?_, ?_, ?_, ?_, ?_, ?_, ?_, ?_, ?_, ?_, ?_, ?_, ?_, trivial⟩ ?_
    · intro x w1 K hU hS hO hd hK
      obtain ⟨k0, k1, -⟩ := cells2 ((Up.tr (up_drew _) (hS.upb rfl)).blk Tr)
      clear hd
      refine ⟨?_⟩; simp only [kgoal, putsFrom, depsOf, pu0, pu1, pu2, pu3, pz0, pz1, pz2, pz3, pz4, pz5, pz6, pz7, pz8, Nat.reduceAdd, Nat.reduceBEq, ↓reduceIte, Act.put]
      go_simp
      exact hK _ _ (Up.refl _) rfl
    · intro x w1 K hU hS hO hd hK
      obtain ⟨k0, k1, -⟩ := cells2 ((Up.tr (up_drew _) (hS.upb rfl)).blk Ts)
      clear hd
      refine ⟨?_⟩; simp only [kgoal, putsFrom, depsOf, pu0, pu1, pu2, pu3, pz0, pz1, pz2, pz3, pz4, pz5, pz6, pz7, pz8, Nat.reduceAdd, Nat.reduceBEq, ↓reduceIte, Act.put]
      go_simp
      exact hK _ _ (Up.refl _) rfl
    · intro x w1 K hU hS hO hd hK
      have h0 : (x 0).v = .agg #[.bool br, .slice aor nr capr] := kval (hd 0 (by decide)).1 rfl
      have h1 : (x 1).v = .agg #[.bool bs, .slice aos ns caps] := kval (hd 1 (by decide)).1 rfl
      clear hd
      refine ⟨?_⟩; simp only [kgoal, putsFrom, depsOf, pu0, pu1, pu2, pu3, pz0, pz1, pz2, pz3, pz4, pz5, pz6, pz7, pz8, Nat.reduceAdd, Nat.reduceBEq, ↓reduceIte, Act.put]
      simp only [h0, h1]
      go_simp
      refine (cmp_rd (M := 70368744175621) (((unhide Cr).rd (M' := 70368744175621) (by omega)).up (Up.tr (up_drew _) (hS.upb rfl))) (((unhide Cs).mono (M' := 70368744175621) (by omega)).up (Up.tr (up_drew _) (hS.upb rfl)))).mono ?_
      rintro e w2 ⟨v2, rfl, n2, u2⟩
      rw [(unhide HS).1] at n2
      exact hK _ _ u2 n2
    · intro x w1 K hU hS hO hd hK
      have h2 : (x 2).v = .int .i64 (-1) := kval (hd 2 (by decide)).1 rfl
      clear hd
      refine ⟨?_⟩; simp only [kgoal, putsFrom, depsOf, pu0, pu1, pu2, pu3, pz0, pz1, pz2, pz3, pz4, pz5, pz6, pz7, pz8, Nat.reduceAdd, Nat.reduceBEq, ↓reduceIte, Act.put]
      simp only [h2]
      go_simp
      exact hK _ _ (Up.refl _) rfl
    · intro x w1 K hU hS hO hd hK
      have h3 : (x 3).v = .bool true := kval (hd 3 (by decide)).1 rfl
      clear hd
      refine ⟨?_⟩; simp only [kgoal, putsFrom, depsOf, pu0, pu1, pu2, pu3, pz0, pz1, pz2, pz3, pz4, pz5, pz6, pz7, pz8, Nat.reduceAdd, Nat.reduceBEq, ↓reduceIte, Act.put]
      simp only [h3]
      go_simp
      exact hK _ _ (Up.refl _) rfl
    · intro x w1 K hU hS hO hd hK
      have h4 : (x 4).v = .bool true := kval (hd 4 (by decide)).1 rfl
      obtain ⟨k0, k1, -⟩ := cells2 ((Up.tr (up_drew _) (hS.upb rfl)).blk Tr)
      clear hd
      refine ⟨?_⟩; simp only [kgoal, putsFrom, depsOf, pu0, pu1, pu2, pu3, pz0, pz1, pz2, pz3, pz4, pz5, pz6, pz7, pz8, Nat.reduceAdd, Nat.reduceBEq, ↓reduceIte, Act.put]
      simp only [h4]
      rw [if_pos (by rfl)]
      go_simp
      exact hK _ _ (Up.refl _) rfl
    · intro x w1 K hU hS hO hd hK
      have h5 : (x 5).v = .agg #[.bool br, .slice aor nr capr] := kval (hd 5 (by decide)).1 rfl
      have h4 : (x 4).v = .bool true := kval (hd 4 (by decide)).1 rfl
      clear hd
      refine ⟨?_⟩; simp only [kgoal, putsFrom, depsOf, pu0, pu1, pu2, pu3, pz0, pz1, pz2, pz3, pz4, pz5, pz6, pz7, pz8, Nat.reduceAdd, Nat.reduceBEq, ↓reduceIte, Act.put]
      simp only [h5, h4]
      rw [if_pos (by rfl)]
      go_simp
      refine (neg_rd (M := 35184372087808 + 1) (((unhide Cr).rd (M' := 35184372087808 + 1) (by omega)).up (Up.tr (up_drew _) (hS.upb rfl))) (by omega)).mono ?_
      rintro e w2 ⟨v2, rfl, n2, u2⟩
      exact hK _ _ u2 n2
    · intro x w1 K hU hS hO hd hK
      have h4 : (x 4).v = .bool true := kval (hd 4 (by decide)).1 rfl
      obtain ⟨k0, k1, -⟩ := cells2 ((Up.tr (up_drew _) (hS.upb rfl)).blk Ts)
      clear hd
      refine ⟨?_⟩; simp only [kgoal, putsFrom, depsOf, pu0, pu1, pu2, pu3, pz0, pz1, pz2, pz3, pz4, pz5, pz6, pz7, pz8, Nat.reduceAdd, Nat.reduceBEq, ↓reduceIte, Act.put]
      simp only [h4]
      rw [if_pos (by rfl)]
      go_simp
      exact hK _ _ (Up.refl _) rfl
    · intro x w1 K hU hS hO hd hK
      have h6 : NumIn (-(rz Xa Xb)) (35184372087808 + 1) w1 (x 6).lo (x 6).hi (x 6).v := kval (hd 6 (by decide)).1 rfl
      have h7 : (x 7).v = .agg #[.bool bs, .slice aos ns caps] := kval (hd 7 (by decide)).1 rfl
      have h4 : (x 4).v = .bool true := kval (hd 4 (by decide)).1 rfl
      clear hd
      refine ⟨?_⟩; simp only [kgoal, putsFrom, depsOf, pu0, pu1, pu2, pu3, pz0, pz1, pz2, pz3, pz4, pz5, pz6, pz7, pz8, Nat.reduceAdd, Nat.reduceBEq, ↓reduceIte, Act.put]
      simp only [h7, h4]
      rw [if_pos (by rfl)]
      go_simp
      refine (cmp_rd (M := 70368744175621) (h6.rd (by omega)) (((unhide Cs).mono (M' := 70368744175621) (by omega)).up (Up.tr (up_drew _) (hS.upb rfl)))).mono ?_
      rintro e w2 ⟨v2, rfl, n2, u2⟩
      rw [(unhide HS).2.1] at n2
      exact hK _ _ u2 n2
    · intro x w1 K hU hS hO hd hK
      have h8 : (x 8).v = .int .i64 (-1) := kval (hd 8 (by decide)).1 rfl
      have h4 : (x 4).v = .bool true := kval (hd 4 (by decide)).1 rfl
      clear hd
      refine ⟨?_⟩; simp only [kgoal, putsFrom, depsOf, pu0, pu1, pu2, pu3, pz0, pz1, pz2, pz3, pz4, pz5, pz6, pz7, pz8, Nat.reduceAdd, Nat.reduceBEq, ↓reduceIte, Act.put]
      simp only [h8, h4]
      rw [if_pos (by rfl)]
      go_simp
      exact hK _ _ (Up.refl _) rfl
    · intro x w1 K hU hS hO hd hK
      have h4 : (x 4).v = .bool true := kval (hd 4 (by decide)).1 rfl
      have h9 : (x 9).v = .bool true := kval (hd 9 (by decide)).1 rfl
      clear hd
      refine ⟨?_⟩; simp only [kgoal, putsFrom, depsOf, pu0, pu1, pu2, pu3, pz0, pz1, pz2, pz3, pz4, pz5, pz6, pz7, pz8, Nat.reduceAdd, Nat.reduceBEq, ↓reduceIte, Act.put]
      simp only [h4, h9]
      go_simp
      exact hK _ _ (Up.refl _) rfl
    · intro x w1 K hU hS hO hd hK
      have h10 : (x 10).v = .bool true := kval (hd 10 (by decide)).1 rfl
      clear hd
      refine ⟨?_⟩; simp only [kgoal, putsFrom, depsOf, pu0, pu1, pu2, pu3, pz0, pz1, pz2, pz3, pz4, pz5, pz6, pz7, pz8, Nat.reduceAdd, Nat.reduceBEq, ↓reduceIte, Act.put]
      simp only [h10]
      go_simp
      exact hK _ _ (Up.refl _) rfl
    · intro x w1 K hU hS hO hd hK
      have h11 : (x 11).v = .bool true := kval (hd 11 (by decide)).1 rfl
      obtain ⟨k0, k1, -⟩ := cells2 ((Up.tr (up_drew _) (hS.upb rfl)).blk Tm)
      clear hd
      refine ⟨?_⟩; simp only [kgoal, putsFrom, depsOf, pu0, pu1, pu2, pu3, pz0, pz1, pz2, pz3, pz4, pz5, pz6, pz7, pz8, Nat.reduceAdd, Nat.reduceBEq, ↓reduceIte, Act.put]
      simp only [h11]
      rw [if_pos (by rfl)]
      go_simp
      exact hK _ _ (Up.refl _) rfl
    · intro x w1 K hU hS hO hd hK
      have h11 : (x 11).v = .bool true := kval (hd 11 (by decide)).1 rfl
      obtain ⟨k0, k1, -⟩ := cells2 ((Up.tr (up_drew _) (hS.upb rfl)).blk Ts)
      clear hd
      refine ⟨?_⟩; simp only [kgoal, putsFrom, depsOf, pu0, pu1, pu2, pu3, pz0, pz1, pz2, pz3, pz4, pz5, pz6, pz7, pz8, Nat.reduceAdd, Nat.reduceBEq, ↓reduceIte, Act.put]
      simp only [h11]
      rw [if_pos (by rfl)]
      go_simp
      exact hK _ _ (Up.refl _) rfl
    · intro x w1 K hU hS hO hd hK
      have h12 : (x 12).v = .agg #[.bool bm, .slice aom nm capm] := kval (hd 12 (by decide)).1 rfl
      have h13 : (x 13).v = .agg #[.bool bs, .slice aos ns caps] := kval (hd 13 (by decide)).1 rfl
      have h11 : (x 11).v = .bool true := kval (hd 11 (by decide)).1 rfl
      clear hd
      refine ⟨?_⟩; simp only [kgoal, putsFrom, depsOf, pu0, pu1, pu2, pu3, pz0, pz1, pz2, pz3, pz4, pz5, pz6, pz7, pz8, Nat.reduceAdd, Nat.reduceBEq, ↓reduceIte, Act.put]
      simp only [h12, h13, h11]
      rw [if_pos (by rfl)]
      go_simp
      refine (cmp_rd (M := 70368744175621) (((unhide Cm).rd (M' := 70368744175621) (by omega)).up (Up.tr (up_drew _) (hS.upb rfl))) (((unhide Cs).mono (M' := 70368744175621) (by omega)).up (Up.tr (up_drew _) (hS.upb rfl)))).mono ?_
      rintro e w2 ⟨v2, rfl, n2, u2⟩
      rw [(unhide HS).2.2.1] at n2
      exact hK _ _ u2 n2
    · intro x w1 K hU hS hO hd hK
      have h14 : (x 14).v = .int .i64 (-1) := kval (hd 14 (by decide)).1 rfl
      have h11 : (x 11).v = .bool true := kval (hd 11 (by decide)).1 rfl
      clear hd
      refine ⟨?_⟩; simp only [kgoal, putsFrom, depsOf, pu0, pu1, pu2, pu3, pz0, pz1, pz2, pz3, pz4, pz5, pz6, pz7, pz8, Nat.reduceAdd, Nat.reduceBEq, ↓reduceIte, Act.put]
      simp only [h14, h11]
      rw [if_pos (by rfl)]
      go_simp
      exact hK _ _ (Up.refl _) rfl
    · intro x w1 K hU hS hO hd hK
      have h11 : (x 11).v = .bool true := kval (hd 11 (by decide)).1 rfl
      have h15 : (x 15).v = .bool true := kval (hd 15 (by decide)).1 rfl
      clear hd
      refine ⟨?_⟩; simp only [kgoal, putsFrom, depsOf, pu0, pu1, pu2, pu3, pz0, pz1, pz2, pz3, pz4, pz5, pz6, pz7, pz8, Nat.reduceAdd, Nat.reduceBEq, ↓reduceIte, Act.put]
      simp only [h11, h15]
      go_simp
      exact hK _ _ (Up.refl _) rfl
    · intro x w1 K hU hS hO hd hK
      have h16 : (x 16).v = .bool true := kval (hd 16 (by decide)).1 rfl
      clear hd
      refine ⟨?_⟩; simp only [kgoal, putsFrom, depsOf, pu0, pu1, pu2, pu3, pz0, pz1, pz2, pz3, pz4, pz5, pz6, pz7, pz8, Nat.reduceAdd, Nat.reduceBEq, ↓reduceIte, Act.put]
      simp only [h16]
      go_simp
      exact hK _ _ (Up.refl _) rfl
    · intro x w1 K hU hS hO hd hK
      have h17 : (x 17).v = .bool true := kval (hd 17 (by decide)).1 rfl
      obtain ⟨k0, k1, -⟩ := cells2 ((Up.tr (up_drew _) (hS.upb rfl)).blk Tm)
      clear hd
      refine ⟨?_⟩; simp only [kgoal, putsFrom, depsOf, pu0, pu1, pu2, pu3, pz0, pz1, pz2, pz3, pz4, pz5, pz6, pz7, pz8, Nat.reduceAdd, Nat.reduceBEq, ↓reduceIte, Act.put]
      simp only [h17]
      rw [if_pos (by rfl)]
      go_simp
      exact hK _ _ (Up.refl _) rfl
    · intro x w1 K hU hS hO hd hK
      have h18 : (x 18).v = .agg #[.bool bm, .slice aom nm capm] := kval (hd 18 (by decide)).1 rfl
      have h17 : (x 17).v = .bool true := kval (hd 17 (by decide)).1 rfl
      clear hd
      refine ⟨?_⟩; simp only [kgoal, putsFrom, depsOf, pu0, pu1, pu2, pu3, pz0, pz1, pz2, pz3, pz4, pz5, pz6, pz7, pz8, Nat.reduceAdd, Nat.reduceBEq, ↓reduceIte, Act.put]
      simp only [h18, h17]
      rw [if_pos (by rfl)]
      go_simp
      refine (neg_rd (M := 35184372087808 + 2) (((unhide Cm).rd (M' := 35184372087808 + 2) (by omega)).up (Up.tr (up_drew _) (hS.upb rfl))) (by omega)).mono ?_
      rintro e w2 ⟨v2, rfl, n2, u2⟩
      exact hK _ _ u2 n2
    · intro x w1 K hU hS hO hd hK
      have h17 : (x 17).v = .bool true := kval (hd 17 (by decide)).1 rfl
      obtain ⟨k0, k1, -⟩ := cells2 ((Up.tr (up_drew _) (hS.upb rfl)).blk Ts)
      clear hd
      refine ⟨?_⟩; simp only [kgoal, putsFrom, depsOf, pu0, pu1, pu2, pu3, pz0, pz1, pz2, pz3, pz4, pz5, pz6, pz7, pz8, Nat.reduceAdd, Nat.reduceBEq, ↓reduceIte, Act.put]
      simp only [h17]
      rw [if_pos (by rfl)]
      go_simp
      exact hK _ _ (Up.refl _) rfl
    · intro x w1 K hU hS hO hd hK
      have h19 : NumIn (-(if Xb = 0 then 0 else Int.fmod Xa Xb)) (35184372087808 + 2) w1 (x 19).lo (x 19).hi (x 19).v := kval (hd 19 (by decide)).1 rfl
      have h20 : (x 20).v = .agg #[.bool bs, .slice aos ns caps] := kval (hd 20 (by decide)).1 rfl
      have h17 : (x 17).v = .bool true := kval (hd 17 (by decide)).1 rfl
      clear hd
      refine ⟨?_⟩; simp only [kgoal, putsFrom, depsOf, pu0, pu1, pu2, pu3, pz0, pz1, pz2, pz3, pz4, pz5, pz6, pz7, pz8, Nat.reduceAdd, Nat.reduceBEq, ↓reduceIte, Act.put]
      simp only [h20, h17]
      rw [if_pos (by rfl)]
      go_simp
      refine (cmp_rd (M := 70368744175621) (h19.rd (by omega)) (((unhide Cs).mono (M' := 70368744175621) (by omega)).up (Up.tr (up_drew _) (hS.upb rfl)))).mono ?_
      rintro e w2 ⟨v2, rfl, n2, u2⟩
      rw [(unhide HS).2.2.2] at n2
      exact hK _ _ u2 n2
    · intro x w1 K hU hS hO hd hK
      have h21 : (x 21).v = .int .i64 (-1) := kval (hd 21 (by decide)).1 rfl
      have h17 : (x 17).v = .bool true := kval (hd 17 (by decide)).1 rfl
      clear hd
      refine ⟨?_⟩; simp only [kgoal, putsFrom, depsOf, pu0, pu1, pu2, pu3, pz0, pz1, pz2, pz3, pz4, pz5, pz6, pz7, pz8, Nat.reduceAdd, Nat.reduceBEq, ↓reduceIte, Act.put]
      simp only [h21, h17]
      rw [if_pos (by rfl)]
      go_simp
      exact hK _ _ (Up.refl _) rfl
    · intro x w1 K hU hS hO hd hK
      have h17 : (x 17).v = .bool true := kval (hd 17 (by decide)).1 rfl
      have h22 : (x 22).v = .bool true := kval (hd 22 (by decide)).1 rfl
      clear hd
      refine ⟨?_⟩; simp only [kgoal, putsFrom, depsOf, pu0, pu1, pu2, pu3, pz0, pz1, pz2, pz3, pz4, pz5, pz6, pz7, pz8, Nat.reduceAdd, Nat.reduceBEq, ↓reduceIte, Act.put]
      simp only [h17, h22]
      go_simp
      exact hK _ _ (Up.refl _) rfl
    · intro x w1 K hU hS hO hd hK
      have h23 : (x 23).v = .bool true := kval (hd 23 (by decide)).1 rfl
      clear hd
      refine ⟨?_⟩; simp only [kgoal, putsFrom, depsOf, pu0, pu1, pu2, pu3, pz0, pz1, pz2, pz3, pz4, pz5, pz6, pz7, pz8, Nat.reduceAdd, Nat.reduceBEq, ↓reduceIte, Act.put]
      simp only [h23]
      go_simp
      exact hK _ _ (Up.refl _) rfl
    intro x w1 hU hS hR hlo hdis
    have hfin : (x 24).v = .bool true := kval (hR 24 (by decide)) rfl
    have hG := Up.tr (up_drew _) (hS.upb rfl)
    refine ⟨?_⟩; simp only [kgoal, putsFrom, depsOf, pu0, pu1, pu2, pu3, pz0, pz1, pz2, pz3, pz4, pz5, pz6, pz7, pz8, Nat.reduceAdd, Nat.reduceBEq, ↓reduceIte, Act.put]
    rw [hfin]
    generalize (x 0).v = z0k
    generalize (x 1).v = z1k
    generalize (x 2).v = z2k
    generalize (x 3).v = z3k
    generalize (x 4).v = z4k
    generalize (x 5).v = z5k
    generalize (x 6).v = z6k
    generalize (x 7).v = z7k
    generalize (x 8).v = z8k
    generalize (x 9).v = z9k
    generalize (x 10).v = z10k
    generalize (x 11).v = z11k
    generalize (x 12).v = z12k
    generalize (x 13).v = z13k
    generalize (x 14).v = z14k
    generalize (x 15).v = z15k
    generalize (x 16).v = z16k
    generalize (x 17).v = z17k
    generalize (x 18).v = z18k
    generalize (x 19).v = z19k
    generalize (x 20).v = z20k
    generalize (x 21).v = z21k
    generalize (x 22).v = z22k
    generalize (x 23).v = z23k
    clear hR hlo hdis hS hfin
    have V3 := hU
    have B3 := B3.tr hG
    replace Tq := hG.blk Tq
    replace Cq := hide ((unhide Cq).up hG)
    replace Tr := hG.blk Tr
    replace Cr := hide ((unhide Cr).up hG)
    replace Tf := hG.blk Tf
    replace Cf := hide ((unhide Cf).up hG)
    replace Tm := hG.blk Tm
    replace Cm := hide ((unhide Cm).up hG)
    replace Tz := hG.blk Tz
    replace Cz := hide ((unhide Cz).up hG)
    replace Ts := hG.blk Ts
    replace Cs := hide ((unhide Cs).up hG)
    clear hG
    go_wp2_with fail
    rcases unhide HC with ⟨hR1, hM1 | hM1⟩ | ⟨sR, hs1, hs2, hR1, hR2, hM1 | hM1⟩
    · refine wp_region_knd (by kernel_rfl) w V3 [[], [], [0, 1], [2], [3], [4], [4], [5, 6, 4], [4], [8, 4], [4], [9, 10, 4], [7, 11, 4], [4, 12], [13], [14], [14], [15, 16, 14], [17, 14], [18, 14], [19], [19], [20, 21, 19], [22, 19], [19], [23, 24, 19], [19, 25, 14], [14, 26], [27]] [.val [] (fun _ g _ => g.v = .agg #[.bool br, .slice aor nr capr]), .val [] (fun _ g _ => g.v = .agg #[.bool bz, .slice aoz nz capz]), .val [] (fun _ g _ => g.v = .int .i64 (0)), .val [] (fun _ g _ => g.v = .bool true), .val [] (fun _ g _ => g.v = .bool true), .val [] (fun _ g _ => g.v = undef), .val [] (fun _ g _ => g.v = undef), .val [] (fun _ g _ => g.v = undef), .val [] (fun _ g _ => g.v = undef), .val [] (fun _ g _ => g.v = undef), .val [] (fun _ g _ => g.v = undef), .val [] (fun _ g _ => g.v = undef), .val [] (fun _ g _ => g.v = undef), .val [] (fun _ g _ => g.v = .bool true), .val [] (fun _ g _ => g.v = .bool true), .val [] (fun _ g _ => g.v = .agg #[.bool bm, .slice aom nm capm]), .val [] (fun _ g _ => g.v = .agg #[.bool bz, .slice aoz nz capz]), .val [] (fun _ g _ => g.v = .int .i64 (0)), .val [] (fun _ g _ => g.v = .bool true), .val [] (fun _ g _ => g.v = .bool true), .val [] (fun _ g _ => g.v = undef), .val [] (fun _ g _ => g.v = undef), .val [] (fun _ g _ => g.v = undef), .val [] (fun _ g _ => g.v = undef), .val [] (fun _ g _ => g.v = undef), .val [] (fun _ g _ => g.v = undef), .val [] (fun _ g _ => g.v = .bool true), .val [] (fun _ g _ => g.v = .bool true), .val [] (fun _ g _ => g.v = .bool true)] (by kernel_rfl) (by kernel_rfl) rfl ⟨trivial, trivial, trivial, trivial, trivial, trivial, trivial, trivial, trivial, trivial, trivial, trivial, trivial, trivial, trivial, trivial, trivial, trivial, trivial, trivial, trivial, trivial, trivial, trivial, trivial, trivial, trivial, trivial, trivial, trivial⟩ ⟨fun _ _ _ _ _ h => h, fun _ _ _ _ _ h => h, fun _ _ _ _ _ h => h, fun _ _ _ _ _ h => h, fun _ _ _ _ _ h => h, fun _ _ _ _ _ h => h, fun _ _ _ _ _ h => h, fun _ _ _ _ _ h => h, fun _ _ _ _ _ h => h, fun _ _ _ _ _ h => h, fun _ _ _ _ _ h => h, fun _ _ _ _ _ h => h, fun _ _ _ _ _ h => h, fun _ _ _ _ _ h => h, fun _ _ _ _ _ h => h, fun _ _ _ _ _ h => h, fun _ _ _ _ _ h => h, fun _ _ _ _ _ h => h, fun _ _ _ _ _ h => h, fun _ _ _ _ _ h => h, fun _ _ _ _ _ h => h, fun _ _ _ _ _ h => h, fun _ _ _ _ _ h => h, fun _ _ _ _ _ h => h, fun _ _ _ _ _ h => h, fun _ _ _ _ _ h => h, fun _ _ _ _ _ h => h, fun _ _ _ _ _ h => h, fun _ _ _ _ _ h => h, trivial⟩ ⟨?_, ?_, ?_, ?_, ?_, ?_, ?_, ?_, ?_, ?_, ?_, ?_, ?_, ?_, ?_, ?_, ?_, ?_, ?_, ?_, ?_, ?_, ?_, ?_, ?_, ?_, ?_, ?_, ?_, trivial⟩ ?_
      · intro x w1 K hU hS hO hd hK
        obtain ⟨k0, k1, -⟩ := cells2 ((Up.tr (up_drew _) (hS.upb rfl)).blk Tr)
        clear hd
        refine ⟨?_⟩; simp only [kgoal, putsFrom, depsOf, pu0, pu1, pu2, pu3, pz0, pz1, pz2, pz3, pz4, pz5, pz6, pz7, pz8, Nat.reduceAdd, Nat.reduceBEq, ↓reduceIte, Act.put]
        go_simp
        exact hK _ _ (Up.refl _) rfl
      · intro x w1 K hU hS hO hd hK
        obtain ⟨k0, k1, -⟩ := cells2 ((Up.tr (up_drew _) (hS.upb rfl)).blk Tz)
        clear hd
        refine ⟨?_⟩; simp only [kgoal, putsFrom, depsOf, pu0, pu1, pu2, pu3, pz0, pz1, pz2, pz3, pz4, pz5, pz6, pz7, pz8, Nat.reduceAdd, Nat.reduceBEq, ↓reduceIte, Act.put]
        go_simp
        exact hK _ _ (Up.refl _) rfl
      · intro x w1 K hU hS hO hd hK
        have h0 : (x 0).v = .agg #[.bool br, .slice aor nr capr] := kval (hd 0 (by decide)).1 rfl
        have h1 : (x 1).v = .agg #[.bool bz, .slice aoz nz capz] := kval (hd 1 (by decide)).1 rfl
        clear hd
        refine ⟨?_⟩; simp only [kgoal, putsFrom, depsOf, pu0, pu1, pu2, pu3, pz0, pz1, pz2, pz3, pz4, pz5, pz6, pz7, pz8, Nat.reduceAdd, Nat.reduceBEq, ↓reduceIte, Act.put]
        simp only [h0, h1]
        go_simp
        refine (cmp_rd (M := 70368744175621) (((unhide Cr).rd (M' := 70368744175621) (by omega)).up (Up.tr (up_drew _) (hS.upb rfl))) (((unhide Cz).rd (M' := 70368744175621) (by omega)).up (Up.tr (up_drew _) (hS.upb rfl)))).mono ?_
        rintro e w2 ⟨v2, rfl, n2, u2⟩
        rw [hR1] at n2
        exact hK _ _ u2 n2
      · intro x w1 K hU hS hO hd hK
        have h2 : (x 2).v = .int .i64 (0) := kval (hd 2 (by decide)).1 rfl
        clear hd
        refine ⟨?_⟩; simp only [kgoal, putsFrom, depsOf, pu0, pu1, pu2, pu3, pz0, pz1, pz2, pz3, pz4, pz5, pz6, pz7, pz8, Nat.reduceAdd, Nat.reduceBEq, ↓reduceIte, Act.put]
        simp only [h2]
        go_simp
        exact hK _ _ (Up.refl _) rfl
      · intro x w1 K hU hS hO hd hK
        have h3 : (x 3).v = .bool true := kval (hd 3 (by decide)).1 rfl
        clear hd
        refine ⟨?_⟩; simp only [kgoal, putsFrom, depsOf, pu0, pu1, pu2, pu3, pz0, pz1, pz2, pz3, pz4, pz5, pz6, pz7, pz8, Nat.reduceAdd, Nat.reduceBEq, ↓reduceIte, Act.put]
        simp only [h3]
        go_simp
        exact hK _ _ (Up.refl _) rfl
      · intro x w1 K hU hS hO hd hK
        have h4 : (x 4).v = .bool true := kval (hd 4 (by decide)).1 rfl
        clear hd
        refine ⟨?_⟩; simp only [kgoal, putsFrom, depsOf, pu0, pu1, pu2, pu3, pz0, pz1, pz2, pz3, pz4, pz5, pz6, pz7, pz8, Nat.reduceAdd, Nat.reduceBEq, ↓reduceIte, Act.put]
        simp only [h4]
        rw [if_neg (by intro h; cases h)]
        exact hK _ _ (Up.refl _) rfl
      · intro x w1 K hU hS hO hd hK
        have h4 : (x 4).v = .bool true := kval (hd 4 (by decide)).1 rfl
        clear hd
        refine ⟨?_⟩; simp only [kgoal, putsFrom, depsOf, pu0, pu1, pu2, pu3, pz0, pz1, pz2, pz3, pz4, pz5, pz6, pz7, pz8, Nat.reduceAdd, Nat.reduceBEq, ↓reduceIte, Act.put]
        simp only [h4]
        rw [if_neg (by intro h; cases h)]
        exact hK _ _ (Up.refl _) rfl
      · intro x w1 K hU hS hO hd hK
        have h5 : (x 5).v = undef := kval (hd 5 (by decide)).1 rfl
        have h6 : (x 6).v = undef := kval (hd 6 (by decide)).1 rfl
        have h4 : (x 4).v = .bool true := kval (hd 4 (by decide)).1 rfl
        clear hd
        refine ⟨?_⟩; simp only [kgoal, putsFrom, depsOf, pu0, pu1, pu2, pu3, pz0, pz1, pz2, pz3, pz4, pz5, pz6, pz7, pz8, Nat.reduceAdd, Nat.reduceBEq, ↓reduceIte, Act.put]
        simp only [h5, h6, h4]
        rw [if_neg (by intro h; cases h)]
        exact hK _ _ (Up.refl _) rfl
      · intro x w1 K hU hS hO hd hK
        have h4 : (x 4).v = .bool true := kval (hd 4 (by decide)).1 rfl
        clear hd
        refine ⟨?_⟩; simp only [kgoal, putsFrom, depsOf, pu0, pu1, pu2, pu3, pz0, pz1, pz2, pz3, pz4, pz5, pz6, pz7, pz8, Nat.reduceAdd, Nat.reduceBEq, ↓reduceIte, Act.put]
        simp only [h4]
        rw [if_neg (by intro h; cases h)]
        exact hK _ _ (Up.refl _) rfl
      · intro x w1 K hU hS hO hd hK
        have h8 : (x 8).v = undef := kval (hd 8 (by decide)).1 rfl
        have h4 : (x 4).v = .bool true := kval (hd 4 (by decide)).1 rfl
        clear hd
        refine ⟨?_⟩; simp only [kgoal, putsFrom, depsOf, pu0, pu1, pu2, pu3, pz0, pz1, pz2, pz3, pz4, pz5, pz6, pz7, pz8, Nat.reduceAdd, Nat.reduceBEq, ↓reduceIte, Act.put]
        simp only [h8, h4]
        rw [if_neg (by intro h; cases h)]
        exact hK _ _ (Up.refl _) rfl
      · intro x w1 K hU hS hO hd hK
        have h4 : (x 4).v = .bool true := kval (hd 4 (by decide)).1 rfl
        clear hd
        refine ⟨?_⟩; simp only [kgoal, putsFrom, depsOf, pu0, pu1, pu2, pu3, pz0, pz1, pz2, pz3, pz4, pz5, pz6, pz7, pz8, Nat.reduceAdd, Nat.reduceBEq, ↓reduceIte, Act.put]
        simp only [h4]
        rw [if_neg (by intro h; cases h)]
        exact hK _ _ (Up.refl _) rfl
      · intro x w1 K hU hS hO hd hK
        have h9 : (x 9).v = undef := kval (hd 9 (by decide)).1 rfl
        have h10 : (x 10).v = undef := kval (hd 10 (by decide)).1 rfl
        have h4 : (x 4).v = .bool true := kval (hd 4 (by decide)).1 rfl
        clear hd
        refine ⟨?_⟩; simp only [kgoal, putsFrom, depsOf, pu0, pu1, pu2, pu3, pz0, pz1, pz2, pz3, pz4, pz5, pz6, pz7, pz8, Nat.reduceAdd, Nat.reduceBEq, ↓reduceIte, Act.put]
        simp only [h9, h10, h4]
        rw [if_neg (by intro h; cases h)]
        exact hK _ _ (Up.refl _) rfl
      · intro x w1 K hU hS hO hd hK
        have h7 : (x 7).v = undef := kval (hd 7 (by decide)).1 rfl
        have h11 : (x 11).v = undef := kval (hd 11 (by decide)).1 rfl
        have h4 : (x 4).v = .bool true := kval (hd 4 (by decide)).1 rfl
        clear hd
        refine ⟨?_⟩; simp only [kgoal, putsFrom, depsOf, pu0, pu1, pu2, pu3, pz0, pz1, pz2, pz3, pz4, pz5, pz6, pz7, pz8, Nat.reduceAdd, Nat.reduceBEq, ↓reduceIte, Act.put]
        simp only [h7, h11, h4]
        rw [if_neg (by intro h; cases h)]
        exact hK _ _ (Up.refl _) rfl
      · intro x w1 K hU hS hO hd hK
        have h4 : (x 4).v = .bool true := kval (hd 4 (by decide)).1 rfl
        have h12 : (x 12).v = undef := kval (hd 12 (by decide)).1 rfl
        clear hd
        refine ⟨?_⟩; simp only [kgoal, putsFrom, depsOf, pu0, pu1, pu2, pu3, pz0, pz1, pz2, pz3, pz4, pz5, pz6, pz7, pz8, Nat.reduceAdd, Nat.reduceBEq, ↓reduceIte, Act.put]
        simp only [h4, h12]
        go_simp
        exact hK _ _ (Up.refl _) rfl
      · intro x w1 K hU hS hO hd hK
        have h13 : (x 13).v = .bool true := kval (hd 13 (by decide)).1 rfl
        clear hd
        refine ⟨?_⟩; simp only [kgoal, putsFrom, depsOf, pu0, pu1, pu2, pu3, pz0, pz1, pz2, pz3, pz4, pz5, pz6, pz7, pz8, Nat.reduceAdd, Nat.reduceBEq, ↓reduceIte, Act.put]
        simp only [h13]
        go_simp
        exact hK _ _ (Up.refl _) rfl
      · intro x w1 K hU hS hO hd hK
        have h14 : (x 14).v = .bool true := kval (hd 14 (by decide)).1 rfl
        obtain ⟨k0, k1, -⟩ := cells2 ((Up.tr (up_drew _) (hS.upb rfl)).blk Tm)
        clear hd
        refine ⟨?_⟩; simp only [kgoal, putsFrom, depsOf, pu0, pu1, pu2, pu3, pz0, pz1, pz2, pz3, pz4, pz5, pz6, pz7, pz8, Nat.reduceAdd, Nat.reduceBEq, ↓reduceIte, Act.put]
        simp only [h14]
        rw [if_pos (by rfl)]
        go_simp
        exact hK _ _ (Up.refl _) rfl
      · intro x w1 K hU hS hO hd hK
        have h14 : (x 14).v = .bool true := kval (hd 14 (by decide)).1 rfl
        obtain ⟨k0, k1, -⟩ := cells2 ((Up.tr (up_drew _) (hS.upb rfl)).blk Tz)
        clear hd
        refine ⟨?_⟩; simp only [kgoal, putsFrom, depsOf, pu0, pu1, pu2, pu3, pz0, pz1, pz2, pz3, pz4, pz5, pz6, pz7, pz8, Nat.reduceAdd, Nat.reduceBEq, ↓reduceIte, Act.put]
        simp only [h14]
        rw [if_pos (by rfl)]
        go_simp
        exact hK _ _ (Up.refl _) rfl
      · intro x w1 K hU hS hO hd hK
        have h15 : (x 15).v = .agg #[.bool bm, .slice aom nm capm] := kval (hd 15 (by decide)).1 rfl
        have h16 : (x 16).v = .agg #[.bool bz, .slice aoz nz capz] := kval (hd 16 (by decide)).1 rfl
        have h14 : (x 14).v = .bool true := kval (hd 14 (by decide)).1 rfl
        clear hd
        refine ⟨?_⟩; simp only [kgoal, putsFrom, depsOf, pu0, pu1, pu2, pu3, pz0, pz1, pz2, pz3, pz4, pz5, pz6, pz7, pz8, Nat.reduceAdd, Nat.reduceBEq, ↓reduceIte, Act.put]
        simp only [h15, h16, h14]
        rw [if_pos (by rfl)]
        go_simp
        refine (cmp_rd (M := 70368744175621) (((unhide Cm).rd (M' := 70368744175621) (by omega)).up (Up.tr (up_drew _) (hS.upb rfl))) (((unhide Cz).rd (M' := 70368744175621) (by omega)).up (Up.tr (up_drew _) (hS.upb rfl)))).mono ?_
        rintro e w2 ⟨v2, rfl, n2, u2⟩
        rw [hM1] at n2
        exact hK _ _ u2 n2
      · intro x w1 K hU hS hO hd hK
        have h17 : (x 17).v = .int .i64 (0) := kval (hd 17 (by decide)).1 rfl
        have h14 : (x 14).v = .bool true := kval (hd 14 (by decide)).1 rfl
        clear hd
        refine ⟨?_⟩; simp only [kgoal, putsFrom, depsOf, pu0, pu1, pu2, pu3, pz0, pz1, pz2, pz3, pz4, pz5, pz6, pz7, pz8, Nat.reduceAdd, Nat.reduceBEq, ↓reduceIte, Act.put]
        simp only [h17, h14]
        rw [if_pos (by rfl)]
        go_simp
        exact hK _ _ (Up.refl _) rfl
      · intro x w1 K hU hS hO hd hK
        have h18 : (x 18).v = .bool true := kval (hd 18 (by decide)).1 rfl
        have h14 : (x 14).v = .bool true := kval (hd 14 (by decide)).1 rfl
        clear hd
        refine ⟨?_⟩; simp only [kgoal, putsFrom, depsOf, pu0, pu1, pu2, pu3, pz0, pz1, pz2, pz3, pz4, pz5, pz6, pz7, pz8, Nat.reduceAdd, Nat.reduceBEq, ↓reduceIte, Act.put]
        simp only [h18, h14]
        rw [if_pos (by rfl)]
        go_simp
        exact hK _ _ (Up.refl _) rfl
      · intro x w1 K hU hS hO hd hK
        have h19 : (x 19).v = .bool true := kval (hd 19 (by decide)).1 rfl
        clear hd
        refine ⟨?_⟩; simp only [kgoal, putsFrom, depsOf, pu0, pu1, pu2, pu3, pz0, pz1, pz2, pz3, pz4, pz5, pz6, pz7, pz8, Nat.reduceAdd, Nat.reduceBEq, ↓reduceIte, Act.put]
        simp only [h19]
        rw [if_neg (by intro h; cases h)]
        exact hK _ _ (Up.refl _) rfl
      · intro x w1 K hU hS hO hd hK
        have h19 : (x 19).v = .bool true := kval (hd 19 (by decide)).1 rfl
        clear hd
        refine ⟨?_⟩; simp only [kgoal, putsFrom, depsOf, pu0, pu1, pu2, pu3, pz0, pz1, pz2, pz3, pz4, pz5, pz6, pz7, pz8, Nat.reduceAdd, Nat.reduceBEq, ↓reduceIte, Act.put]
        simp only [h19]
        rw [if_neg (by intro h; cases h)]
        exact hK _ _ (Up.refl _) rfl
      · intro x w1 K hU hS hO hd hK
        have h20 : (x 20).v = undef := kval (hd 20 (by decide)).1 rfl
        have h21 : (x 21).v = undef := kval (hd 21 (by decide)).1 rfl
        have h19 : (x 19).v = .bool true := kval (hd 19 (by decide)).1 rfl
        clear hd
        refine ⟨?_⟩; simp only [kgoal, putsFrom, depsOf, pu0, pu1, pu2, pu3, pz0, pz1, pz2, pz3, pz4, pz5, pz6, pz7, pz8, Nat.reduceAdd, Nat.reduceBEq, ↓reduceIte, Act.put]
        simp only [h20, h21, h19]
        rw [if_neg (by intro h; cases h)]
        exact hK _ _ (Up.refl _) rfl
      · intro x w1 K hU hS hO hd hK
        have h22 : (x 22).v = undef := kval (hd 22 (by decide)).1 rfl
        have h19 : (x 19).v = .bool true := kval (hd 19 (by decide)).1 rfl
        clear hd
        refine ⟨?_⟩; simp only [kgoal, putsFrom, depsOf, pu0, pu1, pu2, pu3, pz0, pz1, pz2, pz3, pz4, pz5, pz6, pz7, pz8, Nat.reduceAdd, Nat.reduceBEq, ↓reduceIte, Act.put]
        simp only [h22, h19]
        rw [if_neg (by intro h; cases h)]
        exact hK _ _ (Up.refl _) rfl
      · intro x w1 K hU hS hO hd hK
        have h19 : (x 19).v = .bool true := kval (hd 19 (by decide)).1 rfl
        clear hd
        refine ⟨?_⟩; simp only [kgoal, putsFrom, depsOf, pu0, pu1, pu2, pu3, pz0, pz1, pz2, pz3, pz4, pz5, pz6, pz7, pz8, Nat.reduceAdd, Nat.reduceBEq, ↓reduceIte, Act.put]
        simp only [h19]
        rw [if_neg (by intro h; cases h)]
        exact hK _ _ (Up.refl _) rfl
      · intro x w1 K hU hS hO hd hK
        have h23 : (x 23).v = undef := kval (hd 23 (by decide)).1 rfl
        have h24 : (x 24).v = undef := kval (hd 24 (by decide)).1 rfl
        have h19 : (x 19).v = .bool true := kval (hd 19 (by decide)).1 rfl
        clear hd
        refine ⟨?_⟩; simp only [kgoal, putsFrom, depsOf, pu0, pu1, pu2, pu3, pz0, pz1, pz2, pz3, pz4, pz5, pz6, pz7, pz8, Nat.reduceAdd, Nat.reduceBEq, ↓reduceIte, Act.put]
        simp only [h23, h24, h19]
        rw [if_neg (by intro h; cases h)]
        exact hK _ _ (Up.refl _) rfl
      · intro x w1 K hU hS hO hd hK
        have h19 : (x 19).v = .bool true := kval (hd 19 (by decide)).1 rfl
        have h25 : (x 25).v = undef := kval (hd 25 (by decide)).1 rfl
        have h14 : (x 14).v = .bool true := kval (hd 14 (by decide)).1 rfl
        clear hd
        refine ⟨?_⟩; simp only [kgoal, putsFrom, depsOf, pu0, pu1, pu2, pu3, pz0, pz1, pz2, pz3, pz4, pz5, pz6, pz7, pz8, Nat.reduceAdd, Nat.reduceBEq, ↓reduceIte, Act.put]
        simp only [h19, h25, h14]
        rw [if_pos (by rfl)]
        go_simp
        exact hK _ _ (Up.refl _) rfl
      · intro x w1 K hU hS hO hd hK
        have h14 : (x 14).v = .bool true := kval (hd 14 (by decide)).1 rfl
        have h26 : (x 26).v = .bool true := kval (hd 26 (by decide)).1 rfl
        clear hd
        refine ⟨?_⟩; simp only [kgoal, putsFrom, depsOf, pu0, pu1, pu2, pu3, pz0, pz1, pz2, pz3, pz4, pz5, pz6, pz7, pz8, Nat.reduceAdd, Nat.reduceBEq, ↓reduceIte, Act.put]
        simp only [h14, h26]
        go_simp
        exact hK _ _ (Up.refl _) rfl
      · intro x w1 K hU hS hO hd hK
        have h27 : (x 27).v = .bool true := kval (hd 27 (by decide)).1 rfl
        clear hd
        refine ⟨?_⟩; simp only [kgoal, putsFrom, depsOf, pu0, pu1, pu2, pu3, pz0, pz1, pz2, pz3, pz4, pz5, pz6, pz7, pz8, Nat.reduceAdd, Nat.reduceBEq, ↓reduceIte, Act.put]
        simp only [h27]
        go_simp
        exact hK _ _ (Up.refl _) rfl
      intro x w1 hU hS hR hlo hdis
      have hfin : (x 28).v = .bool true := kval (hR 28 (by decide)) rfl
      have hG := Up.tr (up_drew _) (hS.upb rfl)
      refine ⟨?_⟩; simp only [kgoal, putsFrom, depsOf, pu0, pu1, pu2, pu3, pz0, pz1, pz2, pz3, pz4, pz5, pz6, pz7, pz8, Nat.reduceAdd, Nat.reduceBEq, ↓reduceIte, Act.put]
      rw [hfin]
      generalize (x 0).v = z0l
      generalize (x 1).v = z1l
      generalize (x 2).v = z2l
      generalize (x 3).v = z3l
      generalize (x 4).v = z4l
      generalize (x 5).v = z5l
      generalize (x 6).v = z6l
      generalize (x 7).v = z7l
      generalize (x 8).v = z8l
      generalize (x 9).v = z9l
      generalize (x 10).v = z10l
      generalize (x 11).v = z11l
      generalize (x 12).v = z12l
      generalize (x 13).v = z13l
      generalize (x 14).v = z14l
      generalize (x 15).v = z15l
      generalize (x 16).v = z16l
      generalize (x 17).v = z17l
      generalize (x 18).v = z18l
      generalize (x 19).v = z19l
      generalize (x 20).v = z20l
      generalize (x 21).v = z21l
      generalize (x 22).v = z22l
      generalize (x 23).v = z23l
      generalize (x 24).v = z24l
      generalize (x 25).v = z25l
      generalize (x 26).v = z26l
      generalize (x 27).v = z27l
      clear hR hlo hdis hS hfin
      go_wp2_with (go_at_call 20; refine (awake_any _ ((unhide HT).up hU)).mono ?_; rintro e w9 ⟨rfl, u9⟩)
      go_ret
      exact ⟨rfl, hU.tr u9⟩

    · refine wp_region_knd (by kernel_rfl) w V3 [[], [], [0, 1], [2], [3], [4], [4], [5, 6, 4], [4], [8, 4], [4], [9, 10, 4], [7, 11, 4], [4, 12], [13], [14], [14], [15, 16, 14], [17, 14], [18, 14], [19], [19], [20, 21, 19], [22, 19], [19], [23, 24, 19], [19, 25, 14], [14, 26], [27]] [.val [] (fun _ g _ => g.v = .agg #[.bool br, .slice aor nr capr]), .val [] (fun _ g _ => g.v = .agg #[.bool bz, .slice aoz nz capz]), .val [] (fun _ g _ => g.v = .int .i64 (0)), .val [] (fun _ g _ => g.v = .bool true), .val [] (fun _ g _ => g.v = .bool true), .val [] (fun _ g _ => g.v = undef), .val [] (fun _ g _ => g.v = undef), .val [] (fun _ g _ => g.v = undef), .val [] (fun _ g _ => g.v = undef), .val [] (fun _ g _ => g.v = undef), .val [] (fun _ g _ => g.v = undef), .val [] (fun _ g _ => g.v = undef), .val [] (fun _ g _ => g.v = undef), .val [] (fun _ g _ => g.v = .bool true), .val [] (fun _ g _ => g.v = .bool true), .val [] (fun _ g _ => g.v = .agg #[.bool bm, .slice aom nm capm]), .val [] (fun _ g _ => g.v = .agg #[.bool bz, .slice aoz nz capz]), .val [] (fun _ g _ => g.v = .int .i64 (1)), .val [] (fun _ g _ => g.v = .bool false), .val [] (fun _ g _ => g.v = .bool false), .val [] (fun _ g _ => g.v = .agg #[.bool bm, .slice aom nm capm]), .val [] (fun _ g _ => g.v = .agg #[.bool bz, .slice aoz nz capz]), .val [] (fun _ g _ => g.v = .int .i64 (1)), .val [] (fun _ g _ => g.v = .bool false), .val [] (fun _ g _ => g.v = .bool false), .val [] (fun _ g _ => g.v = .bool true), .val [] (fun _ g _ => g.v = .bool true), .val [] (fun _ g _ => g.v = .bool true), .val [] (fun _ g _ => g.v = .bool true)] (by kernel_rfl) (by kernel_rfl) rfl ⟨trivial, trivial, trivial, trivial, trivial, trivial, trivial, trivial, trivial, trivial, trivial, trivial, trivial, trivial, trivial, trivial, trivial, trivial, trivial, trivial, trivial, trivial, trivial, trivial, trivial, trivial, trivial, trivial, trivial, trivial⟩ ⟨fun _ _ _ _ _ h => h, fun _ _ _ _ _ h => h, fun _ _ _ _ _ h => h, fun _ _ _ _ _ h => h, fun _ _ _ _ _ h => h, fun _ _ _ _ _ h => h, fun _ _ _ _ _ h => h, fun _ _ _ _ _ h => h, fun _ _ _ _ _ h => h, fun _ _ _ _ _ h => h, fun _ _ _ _ _ h => h, fun _ _ _ _ _ h => h, fun _ _ _ _ _ h => h, fun _ _ _ _ _ h => h, fun _ _ _ _ _ h => h, fun _ _ _ _ _ h => h, fun _ _ _ _ _ h => h, fun _ _ _ _ _ h => h, fun _ _ _ _ _ h => h, fun _ _ _ _ _ h => h, fun _ _ _ _ _ h => h, fun _ _ _ _ _ h => h, fun _ _ _ _ _ h => h, fun _ _ _ _ _ h => h, fun _ _ _ _ _ h => h, fun _ _ _ _ _ h => h, fun _ _ _ _ _ h => h, fun _ _ _ _ _ h => h, fun _ _ _ _ _ h => h, trivial⟩ ⟨?_, ?_, ?_, ?_, ?_, ?_, ?_, ?_, ?_, ?_, ?_, ?_, ?_, ?_, ?_, ?_, ?_, ?_, ?_, ?_, ?_, ?_, ?_, ?_, ?_, ?_, ?_, ?_, ?_, trivial⟩ ?_
      · intro x w1 K hU hS hO hd hK
        obtain ⟨k0, k1, -⟩ := cells2 ((Up.tr (up_drew _) (hS.upb rfl)).blk Tr)
        clear hd
        refine ⟨?_⟩; simp only [kgoal, putsFrom, depsOf, pu0, pu1, pu2, pu3, pz0, pz1, pz2, pz3, pz4, pz5, pz6, pz7, pz8, Nat.reduceAdd, Nat.reduceBEq, ↓reduceIte, Act.put]
        go_simp
        exact hK _ _ (Up.refl _) rfl
      · intro x w1 K hU hS hO hd hK
        obtain ⟨k0, k1, -⟩ := cells2 ((Up.tr (up_drew _) (hS.upb rfl)).blk Tz)
        clear hd
        refine ⟨?_⟩; simp only [kgoal, putsFrom, depsOf, pu0, pu1, pu2, pu3, pz0, pz1, pz2, pz3, pz4, pz5, pz6, pz7, pz8, Nat.reduceAdd, Nat.reduceBEq, ↓reduceIte, Act.put]
        go_simp
        exact hK _ _ (Up.refl _) rfl
      · intro x w1 K hU hS hO hd hK
        have h0 : (x 0).v = .agg #[.bool br, .slice aor nr capr] := kval (hd 0 (by decide)).1 rfl
        have h1 : (x 1).v = .agg #[.bool bz, .slice aoz nz capz] := kval (hd 1 (by decide)).1 rfl
        clear hd
        refine ⟨?_⟩; simp only [kgoal, putsFrom, depsOf, pu0, pu1, pu2, pu3, pz0, pz1, pz2, pz3, pz4, pz5, pz6, pz7, pz8, Nat.reduceAdd, Nat.reduceBEq, ↓reduceIte, Act.put]
        simp only [h0, h1]
        go_simp
        refine (cmp_rd (M := 70368744175621) (((unhide Cr).rd (M' := 70368744175621) (by omega)).up (Up.tr (up_drew _) (hS.upb rfl))) (((unhide Cz).rd (M' := 70368744175621) (by omega)).up (Up.tr (up_drew _) (hS.upb rfl)))).mono ?_
        rintro e w2 ⟨v2, rfl, n2, u2⟩
        rw [hR1] at n2
        exact hK _ _ u2 n2
      · intro x w1 K hU hS hO hd hK
        have h2 : (x 2).v = .int .i64 (0) := kval (hd 2 (by decide)).1 rfl
        clear hd
        refine ⟨?_⟩; simp only [kgoal, putsFrom, depsOf, pu0, pu1, pu2, pu3, pz0, pz1, pz2, pz3, pz4, pz5, pz6, pz7, pz8, Nat.reduceAdd, Nat.reduceBEq, ↓reduceIte, Act.put]
        simp only [h2]
        go_simp
        exact hK _ _ (Up.refl _) rfl
      · intro x w1 K hU hS hO hd hK
        have h3 : (x 3).v = .bool true := kval (hd 3 (by decide)).1 rfl
        clear hd
        refine ⟨?_⟩; simp only [kgoal, putsFrom, depsOf, pu0, pu1, pu2, pu3, pz0, pz1, pz2, pz3, pz4, pz5, pz6, pz7, pz8, Nat.reduceAdd, Nat.reduceBEq, ↓reduceIte, Act.put]
        simp only [h3]
        go_simp
        exact hK _ _ (Up.refl _) rfl
      · intro x w1 K hU hS hO hd hK
        have h4 : (x 4).v = .bool true := kval (hd 4 (by decide)).1 rfl
        clear hd
        refine ⟨?_⟩; simp only [kgoal, putsFrom, depsOf, pu0, pu1, pu2, pu3, pz0, pz1, pz2, pz3, pz4, pz5, pz6, pz7, pz8, Nat.reduceAdd, Nat.reduceBEq, ↓reduceIte, Act.put]
        simp only [h4]
        rw [if_neg (by intro h; cases h)]
        exact hK _ _ (Up.refl _) rfl
      · intro x w1 K hU hS hO hd hK
        have h4 : (x 4).v = .bool true := kval (hd 4 (by decide)).1 rfl
        clear hd
        refine ⟨?_⟩; simp only [kgoal, putsFrom, depsOf, pu0, pu1, pu2, pu3, pz0, pz1, pz2, pz3, pz4, pz5, pz6, pz7, pz8, Nat.reduceAdd, Nat.reduceBEq, ↓reduceIte, Act.put]
        simp only [h4]
        rw [if_neg (by intro h; cases h)]
        exact hK _ _ (Up.refl _) rfl
      · intro x w1 K hU hS hO hd hK
        have h5 : (x 5).v = undef := kval (hd 5 (by decide)).1 rfl
        have h6 : (x 6).v = undef := kval (hd 6 (by decide)).1 rfl
        have h4 : (x 4).v = .bool true := kval (hd 4 (by decide)).1 rfl
        clear hd
        refine ⟨?_⟩; simp only [kgoal, putsFrom, depsOf, pu0, pu1, pu2, pu3, pz0, pz1, pz2, pz3, pz4, pz5, pz6, pz7, pz8, Nat.reduceAdd, Nat.reduceBEq, ↓reduceIte, Act.put]
        simp only [h5, h6, h4]
        rw [if_neg (by intro h; cases h)]
        exact hK _ _ (Up.refl _) rfl
      · intro x w1 K hU hS hO hd hK
        have h4 : (x 4).v = .bool true := kval (hd 4 (by decide)).1 rfl
        clear hd
        refine ⟨?_⟩; simp only [kgoal, putsFrom, depsOf, pu0, pu1, pu2, pu3, pz0, pz1, pz2, pz3, pz4, pz5, pz6, pz7, pz8, Nat.reduceAdd, Nat.reduceBEq, ↓reduceIte, Act.put]
        simp only [h4]
        rw [if_neg (by intro h; cases h)]
        exact hK _ _ (Up.refl _) rfl
      · intro x w1 K hU hS hO hd hK
        have h8 : (x 8).v = undef := kval (hd 8 (by decide)).1 rfl
        have h4 : (x 4).v = .bool true := kval (hd 4 (by decide)).1 rfl
        clear hd
        refine ⟨?_⟩; simp only [kgoal, putsFrom, depsOf, pu0, pu1, pu2, pu3, pz0, pz1, pz2, pz3, pz4, pz5, pz6, pz7, pz8, Nat.reduceAdd, Nat.reduceBEq, ↓reduceIte, Act.put]
        simp only [h8, h4]
        rw [if_neg (by intro h; cases h)]
        exact hK _ _ (Up.refl _) rfl
      · intro x w1 K hU hS hO hd hK
        have h4 : (x 4).v = .bool true := kval (hd 4 (by decide)).1 rfl
        clear hd
        refine ⟨?_⟩; simp only [kgoal, putsFrom, depsOf, pu0, pu1, pu2, pu3, pz0, pz1, pz2, pz3, pz4, pz5, pz6, pz7, pz8, Nat.reduceAdd, Nat.reduceBEq, ↓reduceIte, Act.put]
        simp only [h4]
        rw [if_neg (by intro h; cases h)]
        exact hK _ _ (Up.refl _) rfl
      · intro x w1 K hU hS hO hd hK
        have h9 : (x 9).v = undef := kval (hd 9 (by decide)).1 rfl
        have h10 : (x 10).v = undef := kval (hd 10 (by decide)).1 rfl
        have h4 : (x 4).v = .bool true := kval (hd 4 (by decide)).1 rfl
        clear hd
        refine ⟨?_⟩; simp only [kgoal, putsFrom, depsOf, pu0, pu1, pu2, pu3, pz0, pz1, pz2, pz3, pz4, pz5, pz6, pz7, pz8, Nat.reduceAdd, Nat.reduceBEq, ↓reduceIte, Act.put]
        simp only [h9, h10, h4]
        rw [if_neg (by intro h; cases h)]
        exact hK _ _ (Up.refl _) rfl
      · intro x w1 K hU hS hO hd hK
        have h7 : (x 7).v = undef := kval (hd 7 (by decide)).1 rfl
        have h11 : (x 11).v = undef := kval (hd 11 (by decide)).1 rfl
        have h4 : (x 4).v = .bool true := kval (hd 4 (by decide)).1 rfl
        clear hd
        refine ⟨?_⟩; simp only [kgoal, putsFrom, depsOf, pu0, pu1, pu2, pu3, pz0, pz1, pz2, pz3, pz4, pz5, pz6, pz7, pz8, Nat.reduceAdd, Nat.reduceBEq, ↓reduceIte, Act.put]
        simp only [h7, h11, h4]
        rw [if_neg (by intro h; cases h)]
        exact hK _ _ (Up.refl _) rfl
      · intro x w1 K hU hS hO hd hK
        have h4 : (x 4).v = .bool true := kval (hd 4 (by decide)).1 rfl
        have h12 : (x 12).v = undef := kval (hd 12 (by decide)).1 rfl
        clear hd
        refine ⟨?_⟩; simp only [kgoal, putsFrom, depsOf, pu0, pu1, pu2, pu3, pz0, pz1, pz2, pz3, pz4, pz5, pz6, pz7, pz8, Nat.reduceAdd, Nat.reduceBEq, ↓reduceIte, Act.put]
        simp only [h4, h12]
        go_simp
        exact hK _ _ (Up.refl _) rfl
      · intro x w1 K hU hS hO hd hK
        have h13 : (x 13).v = .bool true := kval (hd 13 (by decide)).1 rfl
        clear hd
        refine ⟨?_⟩; simp only [kgoal, putsFrom, depsOf, pu0, pu1, pu2, pu3, pz0, pz1, pz2, pz3, pz4, pz5, pz6, pz7, pz8, Nat.reduceAdd, Nat.reduceBEq, ↓reduceIte, Act.put]
        simp only [h13]
        go_simp
        exact hK _ _ (Up.refl _) rfl
      · intro x w1 K hU hS hO hd hK
        have h14 : (x 14).v = .bool true := kval (hd 14 (by decide)).1 rfl
        obtain ⟨k0, k1, -⟩ := cells2 ((Up.tr (up_drew _) (hS.upb rfl)).blk Tm)
        clear hd
        refine ⟨?_⟩; simp only [kgoal, putsFrom, depsOf, pu0, pu1, pu2, pu3, pz0, pz1, pz2, pz3, pz4, pz5, pz6, pz7, pz8, Nat.reduceAdd, Nat.reduceBEq, ↓reduceIte, Act.put]
        simp only [h14]
        rw [if_pos (by rfl)]
        go_simp
        exact hK _ _ (Up.refl _) rfl
      · intro x w1 K hU hS hO hd hK
        have h14 : (x 14).v = .bool true := kval (hd 14 (by decide)).1 rfl
        obtain ⟨k0, k1, -⟩ := cells2 ((Up.tr (up_drew _) (hS.upb rfl)).blk Tz)
        clear hd
        refine ⟨?_⟩; simp only [kgoal, putsFrom, depsOf, pu0, pu1, pu2, pu3, pz0, pz1, pz2, pz3, pz4, pz5, pz6, pz7, pz8, Nat.reduceAdd, Nat.reduceBEq, ↓reduceIte, Act.put]
        simp only [h14]
        rw [if_pos (by rfl)]
        go_simp
        exact hK _ _ (Up.refl _) rfl
      · intro x w1 K hU hS hO hd hK
        have h15 : (x 15).v = .agg #[.bool bm, .slice aom nm capm] := kval (hd 15 (by decide)).1 rfl
        have h16 : (x 16).v = .agg #[.bool bz, .slice aoz nz capz] := kval (hd 16 (by decide)).1 rfl
        have h14 : (x 14).v = .bool true := kval (hd 14 (by decide)).1 rfl
        clear hd
        refine ⟨?_⟩; simp only [kgoal, putsFrom, depsOf, pu0, pu1, pu2, pu3, pz0, pz1, pz2, pz3, pz4, pz5, pz6, pz7, pz8, Nat.reduceAdd, Nat.reduceBEq, ↓reduceIte, Act.put]
        simp only [h15, h16, h14]
        rw [if_pos (by rfl)]
        go_simp
        refine (cmp_rd (M := 70368744175621) (((unhide Cm).rd (M' := 70368744175621) (by omega)).up (Up.tr (up_drew _) (hS.upb rfl))) (((unhide Cz).rd (M' := 70368744175621) (by omega)).up (Up.tr (up_drew _) (hS.upb rfl)))).mono ?_
        rintro e w2 ⟨v2, rfl, n2, u2⟩
        rw [hM1] at n2
        exact hK _ _ u2 n2
      · intro x w1 K hU hS hO hd hK
        have h17 : (x 17).v = .int .i64 (1) := kval (hd 17 (by decide)).1 rfl
        have h14 : (x 14).v = .bool true := kval (hd 14 (by decide)).1 rfl
        clear hd
        refine ⟨?_⟩; simp only [kgoal, putsFrom, depsOf, pu0, pu1, pu2, pu3, pz0, pz1, pz2, pz3, pz4, pz5, pz6, pz7, pz8, Nat.reduceAdd, Nat.reduceBEq, ↓reduceIte, Act.put]
        simp only [h17, h14]
        rw [if_pos (by rfl)]
        go_simp
        exact hK _ _ (Up.refl _) rfl
      · intro x w1 K hU hS hO hd hK
        have h18 : (x 18).v = .bool false := kval (hd 18 (by decide)).1 rfl
        have h14 : (x 14).v = .bool true := kval (hd 14 (by decide)).1 rfl
        clear hd
        refine ⟨?_⟩; simp only [kgoal, putsFrom, depsOf, pu0, pu1, pu2, pu3, pz0, pz1, pz2, pz3, pz4, pz5, pz6, pz7, pz8, Nat.reduceAdd, Nat.reduceBEq, ↓reduceIte, Act.put]
        simp only [h18, h14]
        rw [if_pos (by rfl)]
        go_simp
        exact hK _ _ (Up.refl _) rfl
      · intro x w1 K hU hS hO hd hK
        have h19 : (x 19).v = .bool false := kval (hd 19 (by decide)).1 rfl
        obtain ⟨k0, k1, -⟩ := cells2 ((Up.tr (up_drew _) (hS.upb rfl)).blk Tm)
        clear hd
        refine ⟨?_⟩; simp only [kgoal, putsFrom, depsOf, pu0, pu1, pu2, pu3, pz0, pz1, pz2, pz3, pz4, pz5, pz6, pz7, pz8, Nat.reduceAdd, Nat.reduceBEq, ↓reduceIte, Act.put]
        simp only [h19]
        rw [if_pos (by rfl)]
        go_simp
        exact hK _ _ (Up.refl _) rfl
      · intro x w1 K hU hS hO hd hK
        have h19 : (x 19).v = .bool false := kval (hd 19 (by decide)).1 rfl
        obtain ⟨k0, k1, -⟩ := cells2 ((Up.tr (up_drew _) (hS.upb rfl)).blk Tz)
        clear hd
        refine ⟨?_⟩; simp only [kgoal, putsFrom, depsOf, pu0, pu1, pu2, pu3, pz0, pz1, pz2, pz3, pz4, pz5, pz6, pz7, pz8, Nat.reduceAdd, Nat.reduceBEq, ↓reduceIte, Act.put]
        simp only [h19]
        rw [if_pos (by rfl)]
        go_simp
        exact hK _ _ (Up.refl _) rfl
      · intro x w1 K hU hS hO hd hK
        have h20 : (x 20).v = .agg #[.bool bm, .slice aom nm capm] := kval (hd 20 (by decide)).1 rfl
        have h21 : (x 21).v = .agg #[.bool bz, .slice aoz nz capz] := kval (hd 21 (by decide)).1 rfl
        have h19 : (x 19).v = .bool false := kval (hd 19 (by decide)).1 rfl
        clear hd
        refine ⟨?_⟩; simp only [kgoal, putsFrom, depsOf, pu0, pu1, pu2, pu3, pz0, pz1, pz2, pz3, pz4, pz5, pz6, pz7, pz8, Nat.reduceAdd, Nat.reduceBEq, ↓reduceIte, Act.put]
        simp only [h20, h21, h19]
        rw [if_pos (by rfl)]
        go_simp
        refine (cmp_rd (M := 70368744175621) (((unhide Cm).rd (M' := 70368744175621) (by omega)).up (Up.tr (up_drew _) (hS.upb rfl))) (((unhide Cz).rd (M' := 70368744175621) (by omega)).up (Up.tr (up_drew _) (hS.upb rfl)))).mono ?_
        rintro e w2 ⟨v2, rfl, n2, u2⟩
        rw [hM1] at n2
        exact hK _ _ u2 n2
      · intro x w1 K hU hS hO hd hK
        have h22 : (x 22).v = .int .i64 (1) := kval (hd 22 (by decide)).1 rfl
        have h19 : (x 19).v = .bool false := kval (hd 19 (by decide)).1 rfl
        clear hd
        refine ⟨?_⟩; simp only [kgoal, putsFrom, depsOf, pu0, pu1, pu2, pu3, pz0, pz1, pz2, pz3, pz4, pz5, pz6, pz7, pz8, Nat.reduceAdd, Nat.reduceBEq, ↓reduceIte, Act.put]
        simp only [h22, h19]
        rw [if_pos (by rfl)]
        go_simp
        exact hK _ _ (Up.refl _) rfl
      · intro x w1 K hU hS hO hd hK
        have h19 : (x 19).v = .bool false := kval (hd 19 (by decide)).1 rfl
        clear hd
        refine ⟨?_⟩; simp only [kgoal, putsFrom, depsOf, pu0, pu1, pu2, pu3, pz0, pz1, pz2, pz3, pz4, pz5, pz6, pz7, pz8, Nat.reduceAdd, Nat.reduceBEq, ↓reduceIte, Act.put]
        simp only [h19]
        rw [if_pos (by rfl)]
        go_simp
        exact hK _ _ (Up.refl _) rfl
      · intro x w1 K hU hS hO hd hK
        have h23 : (x 23).v = .bool false := kval (hd 23 (by decide)).1 rfl
        have h24 : (x 24).v = .bool false := kval (hd 24 (by decide)).1 rfl
        have h19 : (x 19).v = .bool false := kval (hd 19 (by decide)).1 rfl
        clear hd
        refine ⟨?_⟩; simp only [kgoal, putsFrom, depsOf, pu0, pu1, pu2, pu3, pz0, pz1, pz2, pz3, pz4, pz5, pz6, pz7, pz8, Nat.reduceAdd, Nat.reduceBEq, ↓reduceIte, Act.put]
        simp only [h23, h24, h19]
        rw [if_pos (by rfl)]
        go_simp
        exact hK _ _ (Up.refl _) rfl
      · intro x w1 K hU hS hO hd hK
        have h19 : (x 19).v = .bool false := kval (hd 19 (by decide)).1 rfl
        have h25 : (x 25).v = .bool true := kval (hd 25 (by decide)).1 rfl
        have h14 : (x 14).v = .bool true := kval (hd 14 (by decide)).1 rfl
        clear hd
        refine ⟨?_⟩; simp only [kgoal, putsFrom, depsOf, pu0, pu1, pu2, pu3, pz0, pz1, pz2, pz3, pz4, pz5, pz6, pz7, pz8, Nat.reduceAdd, Nat.reduceBEq, ↓reduceIte, Act.put]
        simp only [h19, h25, h14]
        rw [if_pos (by rfl)]
        go_simp
        exact hK _ _ (Up.refl _) rfl
      · intro x w1 K hU hS hO hd hK
        have h14 : (x 14).v = .bool true := kval (hd 14 (by decide)).1 rfl
        have h26 : (x 26).v = .bool true := kval (hd 26 (by decide)).1 rfl
        clear hd
        refine ⟨?_⟩; simp only [kgoal, putsFrom, depsOf, pu0, pu1, pu2, pu3, pz0, pz1, pz2, pz3, pz4, pz5, pz6, pz7, pz8, Nat.reduceAdd, Nat.reduceBEq, ↓reduceIte, Act.put]
        simp only [h14, h26]
        go_simp
        exact hK _ _ (Up.refl _) rfl
      · intro x w1 K hU hS hO hd hK
        have h27 : (x 27).v = .bool true := kval (hd 27 (by decide)).1 rfl
        clear hd
        refine ⟨?_⟩; simp only [kgoal, putsFrom, depsOf, pu0, pu1, pu2, pu3, pz0, pz1, pz2, pz3, pz4, pz5, pz6, pz7, pz8, Nat.reduceAdd, Nat.reduceBEq, ↓reduceIte, Act.put]
        simp only [h27]
        go_simp
        exact hK _ _ (Up.refl _) rfl
      intro x w1 hU hS hR hlo hdis
      have hfin : (x 28).v = .bool true := kval (hR 28 (by decide)) rfl
      have hG := Up.tr (up_drew _) (hS.upb rfl)
      refine ⟨?_⟩; simp only [kgoal, putsFrom, depsOf, pu0, pu1, pu2, pu3, pz0, pz1, pz2, pz3, pz4, pz5, pz6, pz7, pz8, Nat.reduceAdd, Nat.reduceBEq, ↓reduceIte, Act.put]
      rw [hfin]
      generalize (x 0).v = z0l
      generalize (x 1).v = z1l
      generalize (x 2).v = z2l
      generalize (x 3).v = z3l
      generalize (x 4).v = z4l
      generalize (x 5).v = z5l
      generalize (x 6).v = z6l
      generalize (x 7).v = z7l
      generalize (x 8).v = z8l
      generalize (x 9).v = z9l
      generalize (x 10).v = z10l
      generalize (x 11).v = z11l
      generalize (x 12).v = z12l
      generalize (x 13).v = z13l
      generalize (x 14).v = z14l
      generalize (x 15).v = z15l
      generalize (x 16).v = z16l
      generalize (x 17).v = z17l
      generalize (x 18).v = z18l
      generalize (x 19).v = z19l
      generalize (x 20).v = z20l
      generalize (x 21).v = z21l
      generalize (x 22).v = z22l
      generalize (x 23).v = z23l
      generalize (x 24).v = z24l
      generalize (x 25).v = z25l
      generalize (x 26).v = z26l
      generalize (x 27).v = z27l
      clear hR hlo hdis hS hfin
      go_wp2_with (go_at_call 20; refine (awake_any _ ((unhide HT).up hU)).mono ?_; rintro e w9 ⟨rfl, u9⟩)
      go_ret
      exact ⟨rfl, hU.tr u9⟩

    · refine wp_region_knd (by kernel_rfl) w V3 [[], [], [0, 1], [2], [3], [4], [4], [5, 6, 4], [4], [8, 4], [4], [9, 10, 4], [7, 11, 4], [4, 12], [13], [14], [14], [15, 16, 14], [17, 14], [18, 14], [19], [19], [20, 21, 19], [22, 19], [19], [23, 24, 19], [19, 25, 14], [14, 26], [27]] [.val [] (fun _ g _ => g.v = .agg #[.bool br, .slice aor nr capr]), .val [] (fun _ g _ => g.v = .agg #[.bool bz, .slice aoz nz capz]), .val [] (fun _ g _ => g.v = .int .i64 (sR)), .val [] (fun _ g _ => g.v = .bool false), .val [] (fun _ g _ => g.v = .bool false), .val [] (fun _ g _ => g.v = .agg #[.bool br, .slice aor nr capr]), .val [] (fun _ g _ => g.v = .agg #[.bool bz, .slice aoz nz capz]), .val [] (fun _ g _ => g.v = .int .i64 (sR)), .val [] (fun _ g _ => g.v = .agg #[.bool ba, .slice aoa na capa]), .val [] (fun w g _ => NumD (Xa) (na) w g.lo g.hi g.v), .val [] (fun _ g _ => g.v = .agg #[.bool bz, .slice aoz nz capz]), .val [] (fun _ g _ => g.v = .int .i64 (sR)), .val [] (fun _ g _ => g.v = .bool true), .val [] (fun _ g _ => g.v = .bool true), .val [] (fun _ g _ => g.v = .bool true), .val [] (fun _ g _ => g.v = .agg #[.bool bm, .slice aom nm capm]), .val [] (fun _ g _ => g.v = .agg #[.bool bz, .slice aoz nz capz]), .val [] (fun _ g _ => g.v = .int .i64 (0)), .val [] (fun _ g _ => g.v = .bool true), .val [] (fun _ g _ => g.v = .bool true), .val [] (fun _ g _ => g.v = undef), .val [] (fun _ g _ => g.v = undef), .val [] (fun _ g _ => g.v = undef), .val [] (fun _ g _ => g.v = undef), .val [] (fun _ g _ => g.v = undef), .val [] (fun _ g _ => g.v = undef), .val [] (fun _ g _ => g.v = .bool true), .val [] (fun _ g _ => g.v = .bool true), .val [] (fun _ g _ => g.v = .bool true)] (by kernel_rfl) (by kernel_rfl) rfl ⟨trivial, trivial, trivial, trivial, trivial, trivial, trivial, trivial, trivial, trivial, trivial, trivial, trivial, trivial, trivial, trivial, trivial, trivial, trivial, trivial, trivial, trivial, trivial, trivial, trivial, trivial, trivial, trivial, trivial, trivial⟩ ⟨fun _ _ _ _ _ h => h, fun _ _ _ _ _ h => h, fun _ _ _ _ _ h => h, fun _ _ _ _ _ h => h, fun _ _ _ _ _ h => h, fun _ _ _ _ _ h => h, fun _ _ _ _ _ h => h, fun _ _ _ _ _ h => h, fun _ _ _ _ _ h => h, fun _ _ _ _ hb h => h.keep hb, fun _ _ _ _ _ h => h, fun _ _ _ _ _ h => h, fun _ _ _ _ _ h => h, fun _ _ _ _ _ h => h, fun _ _ _ _ _ h => h, fun _ _ _ _ _ h => h, fun _ _ _ _ _ h => h, fun _ _ _ _ _ h => h, fun _ _ _ _ _ h => h, fun _ _ _ _ _ h => h, fun _ _ _ _ _ h => h, fun _ _ _ _ _ h => h, fun _ _ _ _ _ h => h, fun _ _ _ _ _ h => h, fun _ _ _ _ _ h => h, fun _ _ _ _ _ h => h, fun _ _ _ _ _ h => h, fun _ _ _ _ _ h => h, fun _ _ _ _ _ h => h, trivial⟩ ⟨?_, ?_, ?_, ?_, ?_, ?_, ?_, ?_, ?_, ?_, ?_, ?_, ?_, ?_, ?_, ?_, ?_, ?_, ?_, ?_, ?_, ?_, ?_, ?_, ?_, ?_, ?_, ?_, ?_, trivial⟩ ?_
      · intro x w1 K hU hS hO hd hK
        obtain ⟨k0, k1, -⟩ := cells2 ((Up.tr (up_drew _) (hS.upb rfl)).blk Tr)
        clear hd
        refine ⟨?_⟩; simp only [kgoal, putsFrom, depsOf, pu0, pu1, pu2, pu3, pz0, pz1, pz2, pz3, pz4, pz5, pz6, pz7, pz8, Nat.reduceAdd, Nat.reduceBEq, ↓reduceIte, Act.put]
        go_simp
        exact hK _ _ (Up.refl _) rfl
      · intro x w1 K hU hS hO hd hK
        obtain ⟨k0, k1, -⟩ := cells2 ((Up.tr (up_drew _) (hS.upb rfl)).blk Tz)
        clear hd
        refine ⟨?_⟩; simp only [kgoal, putsFrom, depsOf, pu0, pu1, pu2, pu3, pz0, pz1, pz2, pz3, pz4, pz5, pz6, pz7, pz8, Nat.reduceAdd, Nat.reduceBEq, ↓reduceIte, Act.put]
        go_simp
        exact hK _ _ (Up.refl _) rfl
      · intro x w1 K hU hS hO hd hK
        have h0 : (x 0).v = .agg #[.bool br, .slice aor nr capr] := kval (hd 0 (by decide)).1 rfl
        have h1 : (x 1).v = .agg #[.bool bz, .slice aoz nz capz] := kval (hd 1 (by decide)).1 rfl
        clear hd
        refine ⟨?_⟩; simp only [kgoal, putsFrom, depsOf, pu0, pu1, pu2, pu3, pz0, pz1, pz2, pz3, pz4, pz5, pz6, pz7, pz8, Nat.reduceAdd, Nat.reduceBEq, ↓reduceIte, Act.put]
        simp only [h0, h1]
        go_simp
        refine (cmp_rd (M := 70368744175621) (((unhide Cr).rd (M' := 70368744175621) (by omega)).up (Up.tr (up_drew _) (hS.upb rfl))) (((unhide Cz).rd (M' := 70368744175621) (by omega)).up (Up.tr (up_drew _) (hS.upb rfl)))).mono ?_
        rintro e w2 ⟨v2, rfl, n2, u2⟩
        rw [hR1] at n2
        exact hK _ _ u2 n2
      · intro x w1 K hU hS hO hd hK
        have h2 : (x 2).v = .int .i64 (sR) := kval (hd 2 (by decide)).1 rfl
        clear hd
        refine ⟨?_⟩; simp only [kgoal, putsFrom, depsOf, pu0, pu1, pu2, pu3, pz0, pz1, pz2, pz3, pz4, pz5, pz6, pz7, pz8, Nat.reduceAdd, Nat.reduceBEq, ↓reduceIte, Act.put]
        simp only [h2]
        go_simp
        exact hK _ _ (Up.refl _) rfl
      · intro x w1 K hU hS hO hd hK
        have h3 : (x 3).v = .bool false := kval (hd 3 (by decide)).1 rfl
        clear hd
        refine ⟨?_⟩; simp only [kgoal, putsFrom, depsOf, pu0, pu1, pu2, pu3, pz0, pz1, pz2, pz3, pz4, pz5, pz6, pz7, pz8, Nat.reduceAdd, Nat.reduceBEq, ↓reduceIte, Act.put]
        simp only [h3]
        go_simp
        exact hK _ _ (Up.refl _) rfl
      · intro x w1 K hU hS hO hd hK
        have h4 : (x 4).v = .bool false := kval (hd 4 (by decide)).1 rfl
        obtain ⟨k0, k1, -⟩ := cells2 ((Up.tr (up_drew _) (hS.upb rfl)).blk Tr)
        clear hd
        refine ⟨?_⟩; simp only [kgoal, putsFrom, depsOf, pu0, pu1, pu2, pu3, pz0, pz1, pz2, pz3, pz4, pz5, pz6, pz7, pz8, Nat.reduceAdd, Nat.reduceBEq, ↓reduceIte, Act.put]
        simp only [h4]
        rw [if_pos (by rfl)]
        go_simp
        exact hK _ _ (Up.refl _) rfl
      · intro x w1 K hU hS hO hd hK
        have h4 : (x 4).v = .bool false := kval (hd 4 (by decide)).1 rfl
        obtain ⟨k0, k1, -⟩ := cells2 ((Up.tr (up_drew _) (hS.upb rfl)).blk Tz)
        clear hd
        refine ⟨?_⟩; simp only [kgoal, putsFrom, depsOf, pu0, pu1, pu2, pu3, pz0, pz1, pz2, pz3, pz4, pz5, pz6, pz7, pz8, Nat.reduceAdd, Nat.reduceBEq, ↓reduceIte, Act.put]
        simp only [h4]
        rw [if_pos (by rfl)]
        go_simp
        exact hK _ _ (Up.refl _) rfl
      · intro x w1 K hU hS hO hd hK
        have h5 : (x 5).v = .agg #[.bool br, .slice aor nr capr] := kval (hd 5 (by decide)).1 rfl
        have h6 : (x 6).v = .agg #[.bool bz, .slice aoz nz capz] := kval (hd 6 (by decide)).1 rfl
        have h4 : (x 4).v = .bool false := kval (hd 4 (by decide)).1 rfl
        clear hd
        refine ⟨?_⟩; simp only [kgoal, putsFrom, depsOf, pu0, pu1, pu2, pu3, pz0, pz1, pz2, pz3, pz4, pz5, pz6, pz7, pz8, Nat.reduceAdd, Nat.reduceBEq, ↓reduceIte, Act.put]
        simp only [h5, h6, h4]
        rw [if_pos (by rfl)]
        go_simp
        refine (cmp_rd (M := 70368744175621) (((unhide Cr).rd (M' := 70368744175621) (by omega)).up (Up.tr (up_drew _) (hS.upb rfl))) (((unhide Cz).rd (M' := 70368744175621) (by omega)).up (Up.tr (up_drew _) (hS.upb rfl)))).mono ?_
        rintro e w2 ⟨v2, rfl, n2, u2⟩
        rw [hR1] at n2
        exact hK _ _ u2 n2
      · intro x w1 K hU hS hO hd hK
        have h4 : (x 4).v = .bool false := kval (hd 4 (by decide)).1 rfl
        obtain ⟨k0, k1, -⟩ := cells2 ((B3.tr (Up.tr (up_drew _) (hS.upb rfl))).blk (unhide K3).1)
        clear hd
        refine ⟨?_⟩; simp only [kgoal, putsFrom, depsOf, pu0, pu1, pu2, pu3, pz0, pz1, pz2, pz3, pz4, pz5, pz6, pz7, pz8, Nat.reduceAdd, Nat.reduceBEq, ↓reduceIte, Act.put]
        simp only [h4]
        rw [if_pos (by rfl)]
        go_simp
        exact hK _ _ (Up.refl _) rfl
      · intro x w1 K hU hS hO hd hK
        have h8 : (x 8).v = .agg #[.bool ba, .slice aoa na capa] := kval (hd 8 (by decide)).1 rfl
        have h4 : (x 4).v = .bool false := kval (hd 4 (by decide)).1 rfl
        clear hd
        refine ⟨?_⟩; simp only [kgoal, putsFrom, depsOf, pu0, pu1, pu2, pu3, pz0, pz1, pz2, pz3, pz4, pz5, pz6, pz7, pz8, Nat.reduceAdd, Nat.reduceBEq, ↓reduceIte, Act.put]
        simp only [h8, h4]
        rw [if_pos (by rfl)]
        go_simp
        refine (c_rd (M := na) (((unhide Ra).up hU)) (by omega)).mono ?_
        rintro e w2 ⟨v2, rfl, n2, u2⟩
        exact hK _ _ u2 n2
      · intro x w1 K hU hS hO hd hK
        have h4 : (x 4).v = .bool false := kval (hd 4 (by decide)).1 rfl
        obtain ⟨k0, k1, -⟩ := cells2 ((Up.tr (up_drew _) (hS.upb rfl)).blk Tz)
        clear hd
        refine ⟨?_⟩; simp only [kgoal, putsFrom, depsOf, pu0, pu1, pu2, pu3, pz0, pz1, pz2, pz3, pz4, pz5, pz6, pz7, pz8, Nat.reduceAdd, Nat.reduceBEq, ↓reduceIte, Act.put]
        simp only [h4]
        rw [if_pos (by rfl)]
        go_simp
        exact hK _ _ (Up.refl _) rfl
      · intro x w1 K hU hS hO hd hK
        have h9 : NumD (Xa) (na) w1 (x 9).lo (x 9).hi (x 9).v := kval (hd 9 (by decide)).1 rfl
        have h10 : (x 10).v = .agg #[.bool bz, .slice aoz nz capz] := kval (hd 10 (by decide)).1 rfl
        have h4 : (x 4).v = .bool false := kval (hd 4 (by decide)).1 rfl
        clear hd
        refine ⟨?_⟩; simp only [kgoal, putsFrom, depsOf, pu0, pu1, pu2, pu3, pz0, pz1, pz2, pz3, pz4, pz5, pz6, pz7, pz8, Nat.reduceAdd, Nat.reduceBEq, ↓reduceIte, Act.put]
        simp only [h10, h4]
        rw [if_pos (by rfl)]
        go_simp
        refine (cmp_rd (M := 70368744175621) (h9.rd (by omega)) (((unhide Cz).rd (M' := 70368744175621) (by omega)).up (Up.tr (up_drew _) (hS.upb rfl)))).mono ?_
        rintro e w2 ⟨v2, rfl, n2, u2⟩
        rw [hR2] at n2
        exact hK _ _ u2 n2
      · intro x w1 K hU hS hO hd hK
        have h7 : (x 7).v = .int .i64 (sR) := kval (hd 7 (by decide)).1 rfl
        have h11 : (x 11).v = .int .i64 (sR) := kval (hd 11 (by decide)).1 rfl
        have h4 : (x 4).v = .bool false := kval (hd 4 (by decide)).1 rfl
        clear hd
        refine ⟨?_⟩; simp only [kgoal, putsFrom, depsOf, pu0, pu1, pu2, pu3, pz0, pz1, pz2, pz3, pz4, pz5, pz6, pz7, pz8, Nat.reduceAdd, Nat.reduceBEq, ↓reduceIte, Act.put]
        simp only [h7, h11, h4]
        rw [if_pos (by rfl)]
        go_simp
        exact hK _ _ (Up.refl _) rfl
      · intro x w1 K hU hS hO hd hK
        have h4 : (x 4).v = .bool false := kval (hd 4 (by decide)).1 rfl
        have h12 : (x 12).v = .bool true := kval (hd 12 (by decide)).1 rfl
        clear hd
        refine ⟨?_⟩; simp only [kgoal, putsFrom, depsOf, pu0, pu1, pu2, pu3, pz0, pz1, pz2, pz3, pz4, pz5, pz6, pz7, pz8, Nat.reduceAdd, Nat.reduceBEq, ↓reduceIte, Act.put]
        simp only [h4, h12]
        go_simp
        exact hK _ _ (Up.refl _) rfl
      · intro x w1 K hU hS hO hd hK
        have h13 : (x 13).v = .bool true := kval (hd 13 (by decide)).1 rfl
        clear hd
        refine ⟨?_⟩; simp only [kgoal, putsFrom, depsOf, pu0, pu1, pu2, pu3, pz0, pz1, pz2, pz3, pz4, pz5, pz6, pz7, pz8, Nat.reduceAdd, Nat.reduceBEq, ↓reduceIte, Act.put]
        simp only [h13]
        go_simp
        exact hK _ _ (Up.refl _) rfl
      · intro x w1 K hU hS hO hd hK
        have h14 : (x 14).v = .bool true := kval (hd 14 (by decide)).1 rfl
        obtain ⟨k0, k1, -⟩ := cells2 ((Up.tr (up_drew _) (hS.upb rfl)).blk Tm)
        clear hd
        refine ⟨?_⟩; simp only [kgoal, putsFrom, depsOf, pu0, pu1, pu2, pu3, pz0, pz1, pz2, pz3, pz4, pz5, pz6, pz7, pz8, Nat.reduceAdd, Nat.reduceBEq, ↓reduceIte, Act.put]
        simp only [h14]
        rw [if_pos (by rfl)]
        go_simp
        exact hK _ _ (Up.refl _) rfl
      · intro x w1 K hU hS hO hd hK
        have h14 : (x 14).v = .bool true := kval (hd 14 (by decide)).1 rfl
        obtain ⟨k0, k1, -⟩ := cells2 ((Up.tr (up_drew _) (hS.upb rfl)).blk Tz)
        clear hd
        refine ⟨?_⟩; simp only [kgoal, putsFrom, depsOf, pu0, pu1, pu2, pu3, pz0, pz1, pz2, pz3, pz4, pz5, pz6, pz7, pz8, Nat.reduceAdd, Nat.reduceBEq, ↓reduceIte, Act.put]
        simp only [h14]
        rw [if_pos (by rfl)]
        go_simp
        exact hK _ _ (Up.refl _) rfl
      · intro x w1 K hU hS hO hd hK
        have h15 : (x 15).v = .agg #[.bool bm, .slice aom nm capm] := kval (hd 15 (by decide)).1 rfl
        have h16 : (x 16).v = .agg #[.bool bz, .slice aoz nz capz] := kval (hd 16 (by decide)).1 rfl
        have h14 : (x 14).v = .bool true := kval (hd 14 (by decide)).1 rfl
        clear hd
        refine ⟨?_⟩; simp only [kgoal, putsFrom, depsOf, pu0, pu1, pu2, pu3, pz0, pz1, pz2, pz3, pz4, pz5, pz6, pz7, pz8, Nat.reduceAdd, Nat.reduceBEq, ↓reduceIte, Act.put]
        simp only [h15, h16, h14]
        rw [if_pos (by rfl)]
        go_simp
        refine (cmp_rd (M := 70368744175621) (((unhide Cm).rd (M' := 70368744175621) (by omega)).up (Up.tr (up_drew _) (hS.upb rfl))) (((unhide Cz).rd (M' := 70368744175621) (by omega)).up (Up.tr (up_drew _) (hS.upb rfl)))).mono ?_
        rintro e w2 ⟨v2, rfl, n2, u2⟩
        rw [hM1] at n2
        exact hK _ _ u2 n2
      · intro x w1 K hU hS hO hd hK
        have h17 : (x 17).v = .int .i64 (0) := kval (hd 17 (by decide)).1 rfl
        have h14 : (x 14).v = .bool true := kval (hd 14 (by decide)).1 rfl
        clear hd
        refine ⟨?_⟩; simp only [kgoal, putsFrom, depsOf, pu0, pu1, pu2, pu3, pz0, pz1, pz2, pz3, pz4, pz5, pz6, pz7, pz8, Nat.reduceAdd, Nat.reduceBEq, ↓reduceIte, Act.put]
        simp only [h17, h14]
        rw [if_pos (by rfl)]
        go_simp
        exact hK _ _ (Up.refl _) rfl
      · intro x w1 K hU hS hO hd hK
        have h18 : (x 18).v = .bool true := kval (hd 18 (by decide)).1 rfl
        have h14 : (x 14).v = .bool true := kval (hd 14 (by decide)).1 rfl
        clear hd
        refine ⟨?_⟩; simp only [kgoal, putsFrom, depsOf, pu0, pu1, pu2, pu3, pz0, pz1, pz2, pz3, pz4, pz5, pz6, pz7, pz8, Nat.reduceAdd, Nat.reduceBEq, ↓reduceIte, Act.put]
        simp only [h18, h14]
        rw [if_pos (by rfl)]
        go_simp
        exact hK _ _ (Up.refl _) rfl
      · intro x w1 K hU hS hO hd hK
        have h19 : (x 19).v = .bool true := kval (hd 19 (by decide)).1 rfl
        clear hd
        refine ⟨?_⟩; simp only [kgoal, putsFrom, depsOf, pu0, pu1, pu2, pu3, pz0, pz1, pz2, pz3, pz4, pz5, pz6, pz7, pz8, Nat.reduceAdd, Nat.reduceBEq, ↓reduceIte, Act.put]
        simp only [h19]
        rw [if_neg (by intro h; cases h)]
        exact hK _ _ (Up.refl _) rfl
      · intro x w1 K hU hS hO hd hK
        have h19 : (x 19).v = .bool true := kval (hd 19 (by decide)).1 rfl
        clear hd
        refine ⟨?_⟩; simp only [kgoal, putsFrom, depsOf, pu0, pu1, pu2, pu3, pz0, pz1, pz2, pz3, pz4, pz5, pz6, pz7, pz8, Nat.reduceAdd, Nat.reduceBEq, ↓reduceIte, Act.put]
        simp only [h19]
        rw [if_neg (by intro h; cases h)]
        exact hK _ _ (Up.refl _) rfl
      · intro x w1 K hU hS hO hd hK
        have h20 : (x 20).v = undef := kval (hd 20 (by decide)).1 rfl
        have h21 : (x 21).v = undef := kval (hd 21 (by decide)).1 rfl
        have h19 : (x 19).v = .bool true := kval (hd 19 (by decide)).1 rfl
        clear hd
        refine ⟨?_⟩; simp only [kgoal, putsFrom, depsOf, pu0, pu1, pu2, pu3, pz0, pz1, pz2, pz3, pz4, pz5, pz6, pz7, pz8, Nat.reduceAdd, Nat.reduceBEq, ↓reduceIte, Act.put]
        simp only [h20, h21, h19]
        rw [if_neg (by intro h; cases h)]
        exact hK _ _ (Up.refl _) rfl
      · intro x w1 K hU hS hO hd hK
        have h22 : (x 22).v = undef := kval (hd 22 (by decide)).1 rfl
        have h19 : (x 19).v = .bool true := kval (hd 19 (by decide)).1 rfl
        clear hd
        refine ⟨?_⟩; simp only [kgoal, putsFrom, depsOf, pu0, pu1, pu2, pu3, pz0, pz1, pz2, pz3, pz4, pz5, pz6, pz7, pz8, Nat.reduceAdd, Nat.reduceBEq, ↓reduceIte, Act.put]
        simp only [h22, h19]
        rw [if_neg (by intro h; cases h)]
        exact hK _ _ (Up.refl _) rfl
      · intro x w1 K hU hS hO hd hK
        have h19 : (x 19).v = .bool true := kval (hd 19 (by decide)).1 rfl
        clear hd
        refine ⟨?_⟩; simp only [kgoal, putsFrom, depsOf, pu0, pu1, pu2, pu3, pz0, pz1, pz2, pz3, pz4, pz5, pz6, pz7, pz8, Nat.reduceAdd, Nat.reduceBEq, ↓reduceIte, Act.put]
        simp only [h19]
        rw [if_neg (by intro h; cases h)]
        exact hK _ _ (Up.refl _) rfl
      · intro x w1 K hU hS hO hd hK
        have h23 : (x 23).v = undef := kval (hd 23 (by decide)).1 rfl
        have h24 : (x 24).v = undef := kval (hd 24 (by decide)).1 rfl
        have h19 : (x 19).v = .bool true := kval (hd 19 (by decide)).1 rfl
        clear hd
        refine ⟨?_⟩; simp only [kgoal, putsFrom, depsOf, pu0, pu1, pu2, pu3, pz0, pz1, pz2, pz3, pz4, pz5, pz6, pz7, pz8, Nat.reduceAdd, Nat.reduceBEq, ↓reduceIte, Act.put]
        simp only [h23, h24, h19]
        rw [if_neg (by intro h; cases h)]
        exact hK _ _ (Up.refl _) rfl
      · intro x w1 K hU hS hO hd hK
        have h19 : (x 19).v = .bool true := kval (hd 19 (by decide)).1 rfl
        have h25 : (x 25).v = undef := kval (hd 25 (by decide)).1 rfl
        have h14 : (x 14).v = .bool true := kval (hd 14 (by decide)).1 rfl
        clear hd
        refine ⟨?_⟩; simp only [kgoal, putsFrom, depsOf, pu0, pu1, pu2, pu3, pz0, pz1, pz2, pz3, pz4, pz5, pz6, pz7, pz8, Nat.reduceAdd, Nat.reduceBEq, ↓reduceIte, Act.put]
        simp only [h19, h25, h14]
        rw [if_pos (by rfl)]
        go_simp
        exact hK _ _ (Up.refl _) rfl
      · intro x w1 K hU hS hO hd hK
        have h14 : (x 14).v = .bool true := kval (hd 14 (by decide)).1 rfl
        have h26 : (x 26).v = .bool true := kval (hd 26 (by decide)).1 rfl
        clear hd
        refine ⟨?_⟩; simp only [kgoal, putsFrom, depsOf, pu0, pu1, pu2, pu3, pz0, pz1, pz2, pz3, pz4, pz5, pz6, pz7, pz8, Nat.reduceAdd, Nat.reduceBEq, ↓reduceIte, Act.put]
        simp only [h14, h26]
        go_simp
        exact hK _ _ (Up.refl _) rfl
      · intro x w1 K hU hS hO hd hK
        have h27 : (x 27).v = .bool true := kval (hd 27 (by decide)).1 rfl
        clear hd
        refine ⟨?_⟩; simp only [kgoal, putsFrom, depsOf, pu0, pu1, pu2, pu3, pz0, pz1, pz2, pz3, pz4, pz5, pz6, pz7, pz8, Nat.reduceAdd, Nat.reduceBEq, ↓reduceIte, Act.put]
        simp only [h27]
        go_simp
        exact hK _ _ (Up.refl _) rfl
      intro x w1 hU hS hR hlo hdis
      have hfin : (x 28).v = .bool true := kval (hR 28 (by decide)) rfl
      have hG := Up.tr (up_drew _) (hS.upb rfl)
      refine ⟨?_⟩; simp only [kgoal, putsFrom, depsOf, pu0, pu1, pu2, pu3, pz0, pz1, pz2, pz3, pz4, pz5, pz6, pz7, pz8, Nat.reduceAdd, Nat.reduceBEq, ↓reduceIte, Act.put]
      rw [hfin]
      generalize (x 0).v = z0l
      generalize (x 1).v = z1l
      generalize (x 2).v = z2l
      generalize (x 3).v = z3l
      generalize (x 4).v = z4l
      generalize (x 5).v = z5l
      generalize (x 6).v = z6l
      generalize (x 7).v = z7l
      generalize (x 8).v = z8l
      generalize (x 9).v = z9l
      generalize (x 10).v = z10l
      generalize (x 11).v = z11l
      generalize (x 12).v = z12l
      generalize (x 13).v = z13l
      generalize (x 14).v = z14l
      generalize (x 15).v = z15l
      generalize (x 16).v = z16l
      generalize (x 17).v = z17l
      generalize (x 18).v = z18l
      generalize (x 19).v = z19l
      generalize (x 20).v = z20l
      generalize (x 21).v = z21l
      generalize (x 22).v = z22l
      generalize (x 23).v = z23l
      generalize (x 24).v = z24l
      generalize (x 25).v = z25l
      generalize (x 26).v = z26l
      generalize (x 27).v = z27l
      clear hR hlo hdis hS hfin
      go_wp2_with (go_at_call 20; refine (awake_any _ ((unhide HT).up hU)).mono ?_; rintro e w9 ⟨rfl, u9⟩)
      go_ret
      exact ⟨rfl, hU.tr u9⟩

    · refine wp_region_knd (by kernel_rfl) w V3 [[], [], [0, 1], [2], [3], [4], [4], [5, 6, 4], [4], [8, 4], [4], [9, 10, 4], [7, 11, 4], [4, 12], [13], [14], [14], [15, 16, 14], [17, 14], [18, 14], [19], [19], [20, 21, 19], [22, 19], [19], [23, 24, 19], [19, 25, 14], [14, 26], [27]] [.val [] (fun _ g _ => g.v = .agg #[.bool br, .slice aor nr capr]), .val [] (fun _ g _ => g.v = .agg #[.bool bz, .slice aoz nz capz]), .val [] (fun _ g _ => g.v = .int .i64 (sR)), .val [] (fun _ g _ => g.v = .bool false), .val [] (fun _ g _ => g.v = .bool false), .val [] (fun _ g _ => g.v = .agg #[.bool br, .slice aor nr capr]), .val [] (fun _ g _ => g.v = .agg #[.bool bz, .slice aoz nz capz]), .val [] (fun _ g _ => g.v = .int .i64 (sR)), .val [] (fun _ g _ => g.v = .agg #[.bool ba, .slice aoa na capa]), .val [] (fun w g _ => NumD (Xa) (na) w g.lo g.hi g.v), .val [] (fun _ g _ => g.v = .agg #[.bool bz, .slice aoz nz capz]), .val [] (fun _ g _ => g.v = .int .i64 (sR)), .val [] (fun _ g _ => g.v = .bool true), .val [] (fun _ g _ => g.v = .bool true), .val [] (fun _ g _ => g.v = .bool true), .val [] (fun _ g _ => g.v = .agg #[.bool bm, .slice aom nm capm]), .val [] (fun _ g _ => g.v = .agg #[.bool bz, .slice aoz nz capz]), .val [] (fun _ g _ => g.v = .int .i64 (1)), .val [] (fun _ g _ => g.v = .bool false), .val [] (fun _ g _ => g.v = .bool false), .val [] (fun _ g _ => g.v = .agg #[.bool bm, .slice aom nm capm]), .val [] (fun _ g _ => g.v = .agg #[.bool bz, .slice aoz nz capz]), .val [] (fun _ g _ => g.v = .int .i64 (1)), .val [] (fun _ g _ => g.v = .bool false), .val [] (fun _ g _ => g.v = .bool false), .val [] (fun _ g _ => g.v = .bool true), .val [] (fun _ g _ => g.v = .bool true), .val [] (fun _ g _ => g.v = .bool true), .val [] (fun _ g _ => g.v = .bool true)] (by kernel_rfl) (by kernel_rfl) rfl ⟨trivial, trivial, trivial, trivial, trivial, trivial, trivial, trivial, trivial, trivial, trivial, trivial, trivial, trivial, trivial, trivial, trivial, trivial, trivial, trivial, trivial, trivial, trivial, trivial, trivial, trivial, trivial, trivial, trivial, trivial⟩ ⟨fun _ _ _ _ _ h => h, fun _ _ _ _ _ h => h, fun _ _ _ _ _ h => h, fun _ _ _ _ _ h => h, fun _ _ _ _ _ h => h, fun _ _ _ _ _ h => h, fun _ _ _ _ _ h => h, fun _ _ _ _ _ h => h, fun _ _ _ _ _ h => h, fun _ _ _ _ hb h => h.keep hb, fun _ _ _ _ _ h => h, fun _ _ _ _ _ h => h, fun _ _ _ _ _ h => h, fun _ _ _ _ _ h => h, fun _ _ _ _ _ h => h, fun _ _ _ _ _ h => h, fun _ _ _ _ _ h => h, fun _ _ _ _ _ h => h, fun _ _ _ _ _ h => h, fun _ _ _ _ _ h => h, fun _ _ _ _ _ h => h, fun _ _ _ _ _ h => h, fun _ _ _ _ _ h => h, fun _ _ _ _ _ h => h, fun _ _ _ _ _ h => h, fun _ _ _ _ _ h => h, fun _ _ _ _ _ h => h, fun _ _ _ _ _ h => h, fun _ _ _ _ _ h => h, trivial⟩ ⟨?_, ?_, ?_, ?_, ?_, ?_, ?_, ?_, ?_, ?_, ?_, ?_, ?_, ?_, ?_, ?_, ?_, ?_, ?_, ?_, ?_, ?_, ?_, ?_, ?_, ?_, ?_, ?_, ?_, trivial⟩ ?_
      · intro x w1 K hU hS hO hd hK
        obtain ⟨k0, k1, -⟩ := cells2 ((Up.tr (up_drew _) (hS.upb rfl)).blk Tr)
        clear hd
        refine ⟨?_⟩; simp only [kgoal, putsFrom, depsOf, pu0, pu1, pu2, pu3, pz0, pz1, pz2, pz3, pz4, pz5, pz6, pz7, pz8, Nat.reduceAdd, Nat.reduceBEq, ↓reduceIte, Act.put]
        go_simp
        exact hK _ _ (Up.refl _) rfl
      · intro x w1 K hU hS hO hd hK
        obtain ⟨k0, k1, -⟩ := cells2 ((Up.tr (up_drew _) (hS.upb rfl)).blk Tz)
        clear hd
        refine ⟨?_⟩; simp only [kgoal, putsFrom, depsOf, pu0, pu1, pu2, pu3, pz0, pz1, pz2, pz3, pz4, pz5, pz6, pz7, pz8, Nat.reduceAdd, Nat.reduceBEq, ↓reduceIte, Act.put]
        go_simp
        exact hK _ _ (Up.refl _) rfl
      · intro x w1 K hU hS hO hd hK
        have h0 : (x 0).v = .agg #[.bool br, .slice aor nr capr] := kval (hd 0 (by decide)).1 rfl
        have h1 : (x 1).v = .agg #[.bool bz, .slice aoz nz capz] := kval (hd 1 (by decide)).1 rfl
        clear hd
        refine ⟨?_⟩; simp only [kgoal, putsFrom, depsOf, pu0, pu1, pu2, pu3, pz0, pz1, pz2, pz3, pz4, pz5, pz6, pz7, pz8, Nat.reduceAdd, Nat.reduceBEq, ↓reduceIte, Act.put]
        simp only [h0, h1]
        go_simp
        refine (cmp_rd (M := 70368744175621) (((unhide Cr).rd (M' := 70368744175621) (by omega)).up (Up.tr (up_drew _) (hS.upb rfl))) (((unhide Cz).rd (M' := 70368744175621) (by omega)).up (Up.tr (up_drew _) (hS.upb rfl)))).mono ?_
        rintro e w2 ⟨v2, rfl, n2, u2⟩
        rw [hR1] at n2
        exact hK _ _ u2 n2
      · intro x w1 K hU hS hO hd hK
        have h2 : (x 2).v = .int .i64 (sR) := kval (hd 2 (by decide)).1 rfl
        clear hd
        refine ⟨?_⟩; simp only [kgoal, putsFrom, depsOf, pu0, pu1, pu2, pu3, pz0, pz1, pz2, pz3, pz4, pz5, pz6, pz7, pz8, Nat.reduceAdd, Nat.reduceBEq, ↓reduceIte, Act.put]
        simp only [h2]
        go_simp
        exact hK _ _ (Up.refl _) rfl
      · intro x w1 K hU hS hO hd hK
        have h3 : (x 3).v = .bool false := kval (hd 3 (by decide)).1 rfl
        clear hd
        refine ⟨?_⟩; simp only [kgoal, putsFrom, depsOf, pu0, pu1, pu2, pu3, pz0, pz1, pz2, pz3, pz4, pz5, pz6, pz7, pz8, Nat.reduceAdd, Nat.reduceBEq, ↓reduceIte, Act.put]
        simp only [h3]
        go_simp
        exact hK _ _ (Up.refl _) rfl
      · intro x w1 K hU hS hO hd hK
        have h4 : (x 4).v = .bool false := kval (hd 4 (by decide)).1 rfl
        obtain ⟨k0, k1, -⟩ := cells2 ((Up.tr (up_drew _) (hS.upb rfl)).blk Tr)
        clear hd
        refine ⟨?_⟩; simp only [kgoal, putsFrom, depsOf, pu0, pu1, pu2, pu3, pz0, pz1, pz2, pz3, pz4, pz5, pz6, pz7, pz8, Nat.reduceAdd, Nat.reduceBEq, ↓reduceIte, Act.put]
        simp only [h4]
        rw [if_pos (by rfl)]
        go_simp
        exact hK _ _ (Up.refl _) rfl
      · intro x w1 K hU hS hO hd hK
        have h4 : (x 4).v = .bool false := kval (hd 4 (by decide)).1 rfl
        obtain ⟨k0, k1, -⟩ := cells2 ((Up.tr (up_drew _) (hS.upb rfl)).blk Tz)
        clear hd
        refine ⟨?_⟩; simp only [kgoal, putsFrom, depsOf, pu0, pu1, pu2, pu3, pz0, pz1, pz2, pz3, pz4, pz5, pz6, pz7, pz8, Nat.reduceAdd, Nat.reduceBEq, ↓reduceIte, Act.put]
        simp only [h4]
        rw [if_pos (by rfl)]
        go_simp
        exact hK _ _ (Up.refl _) rfl
      · intro x w1 K hU hS hO hd hK
        have h5 : (x 5).v = .agg #[.bool br, .slice aor nr capr] := kval (hd 5 (by decide)).1 rfl
        have h6 : (x 6).v = .agg #[.bool bz, .slice aoz nz capz] := kval (hd 6 (by decide)).1 rfl
        have h4 : (x 4).v = .bool false := kval (hd 4 (by decide)).1 rfl
        clear hd
        refine ⟨?_⟩; simp only [kgoal, putsFrom, depsOf, pu0, pu1, pu2, pu3, pz0, pz1, pz2, pz3, pz4, pz5, pz6, pz7, pz8, Nat.reduceAdd, Nat.reduceBEq, ↓reduceIte, Act.put]
        simp only [h5, h6, h4]
        rw [if_pos (by rfl)]
        go_simp
        refine (cmp_rd (M := 70368744175621) (((unhide Cr).rd (M' := 70368744175621) (by omega)).up (Up.tr (up_drew _) (hS.upb rfl))) (((unhide Cz).rd (M' := 70368744175621) (by omega)).up (Up.tr (up_drew _) (hS.upb rfl)))).mono ?_
        rintro e w2 ⟨v2, rfl, n2, u2⟩
        rw [hR1] at n2
        exact hK _ _ u2 n2
      · intro x w1 K hU hS hO hd hK
        have h4 : (x 4).v = .bool false := kval (hd 4 (by decide)).1 rfl
        obtain ⟨k0, k1, -⟩ := cells2 ((B3.tr (Up.tr (up_drew _) (hS.upb rfl))).blk (unhide K3).1)
        clear hd
        refine ⟨?_⟩; simp only [kgoal, putsFrom, depsOf, pu0, pu1, pu2, pu3, pz0, pz1, pz2, pz3, pz4, pz5, pz6, pz7, pz8, Nat.reduceAdd, Nat.reduceBEq, ↓reduceIte, Act.put]
        simp only [h4]
        rw [if_pos (by rfl)]
        go_simp
        exact hK _ _ (Up.refl _) rfl
      · intro x w1 K hU hS hO hd hK
        have h8 : (x 8).v = .agg #[.bool ba, .slice aoa na capa] := kval (hd 8 (by decide)).1 rfl
        have h4 : (x 4).v = .bool false := kval (hd 4 (by decide)).1 rfl
        clear hd
        refine ⟨?_⟩; simp only [kgoal, putsFrom, depsOf, pu0, pu1, pu2, pu3, pz0, pz1, pz2, pz3, pz4, pz5, pz6, pz7, pz8, Nat.reduceAdd, Nat.reduceBEq, ↓reduceIte, Act.put]
        simp only [h8, h4]
        rw [if_pos (by rfl)]
        go_simp
        refine (c_rd (M := na) (((unhide Ra).up hU)) (by omega)).mono ?_
        rintro e w2 ⟨v2, rfl, n2, u2⟩
        exact hK _ _ u2 n2
      · intro x w1 K hU hS hO hd hK
        have h4 : (x 4).v = .bool false := kval (hd 4 (by decide)).1 rfl
        obtain ⟨k0, k1, -⟩ := cells2 ((Up.tr (up_drew _) (hS.upb rfl)).blk Tz)
        clear hd
        refine ⟨?_⟩; simp only [kgoal, putsFrom, depsOf, pu0, pu1, pu2, pu3, pz0, pz1, pz2, pz3, pz4, pz5, pz6, pz7, pz8, Nat.reduceAdd, Nat.reduceBEq, ↓reduceIte, Act.put]
        simp only [h4]
        rw [if_pos (by rfl)]
        go_simp
        exact hK _ _ (Up.refl _) rfl
      · intro x w1 K hU hS hO hd hK
        have h9 : NumD (Xa) (na) w1 (x 9).lo (x 9).hi (x 9).v := kval (hd 9 (by decide)).1 rfl
        have h10 : (x 10).v = .agg #[.bool bz, .slice aoz nz capz] := kval (hd 10 (by decide)).1 rfl
        have h4 : (x 4).v = .bool false := kval (hd 4 (by decide)).1 rfl
        clear hd
        refine ⟨?_⟩; simp only [kgoal, putsFrom, depsOf, pu0, pu1, pu2, pu3, pz0, pz1, pz2, pz3, pz4, pz5, pz6, pz7, pz8, Nat.reduceAdd, Nat.reduceBEq, ↓reduceIte, Act.put]
        simp only [h10, h4]
        rw [if_pos (by rfl)]
        go_simp
        refine (cmp_rd (M := 70368744175621) (h9.rd (by omega)) (((unhide Cz).rd (M' := 70368744175621) (by omega)).up (Up.tr (up_drew _) (hS.upb rfl)))).mono ?_
        rintro e w2 ⟨v2, rfl, n2, u2⟩
        rw [hR2] at n2
        exact hK _ _ u2 n2
      · intro x w1 K hU hS hO hd hK
        have h7 : (x 7).v = .int .i64 (sR) := kval (hd 7 (by decide)).1 rfl
        have h11 : (x 11).v = .int .i64 (sR) := kval (hd 11 (by decide)).1 rfl
        have h4 : (x 4).v = .bool false := kval (hd 4 (by decide)).1 rfl
        clear hd
        refine ⟨?_⟩; simp only [kgoal, putsFrom, depsOf, pu0, pu1, pu2, pu3, pz0, pz1, pz2, pz3, pz4, pz5, pz6, pz7, pz8, Nat.reduceAdd, Nat.reduceBEq, ↓reduceIte, Act.put]
        simp only [h7, h11, h4]
        rw [if_pos (by rfl)]
        go_simp
        exact hK _ _ (Up.refl _) rfl
      · intro x w1 K hU hS hO hd hK
        have h4 : (x 4).v = .bool false := kval (hd 4 (by decide)).1 rfl
        have h12 : (x 12).v = .bool true := kval (hd 12 (by decide)).1 rfl
        clear hd
        refine ⟨?_⟩; simp only [kgoal, putsFrom, depsOf, pu0, pu1, pu2, pu3, pz0, pz1, pz2, pz3, pz4, pz5, pz6, pz7, pz8, Nat.reduceAdd, Nat.reduceBEq, ↓reduceIte, Act.put]
        simp only [h4, h12]
        go_simp
        exact hK _ _ (Up.refl _) rfl
      · intro x w1 K hU hS hO hd hK
        have h13 : (x 13).v = .bool true := kval (hd 13 (by decide)).1 rfl
        clear hd
        refine ⟨?_⟩; simp only [kgoal, putsFrom, depsOf, pu0, pu1, pu2, pu3, pz0, pz1, pz2, pz3, pz4, pz5, pz6, pz7, pz8, Nat.reduceAdd, Nat.reduceBEq, ↓reduceIte, Act.put]
        simp only [h13]
        go_simp
        exact hK _ _ (Up.refl _) rfl
      · intro x w1 K hU hS hO hd hK
        have h14 : (x 14).v = .bool true := kval (hd 14 (by decide)).1 rfl
        obtain ⟨k0, k1, -⟩ := cells2 ((Up.tr (up_drew _) (hS.upb rfl)).blk Tm)
        clear hd
        refine ⟨?_⟩; simp only [kgoal, putsFrom, depsOf, pu0, pu1, pu2, pu3, pz0, pz1, pz2, pz3, pz4, pz5, pz6, pz7, pz8, Nat.reduceAdd, Nat.reduceBEq, ↓reduceIte, Act.put]
        simp only [h14]
        rw [if_pos (by rfl)]
        go_simp
        exact hK _ _ (Up.refl _) rfl
      · intro x w1 K hU hS hO hd hK
        have h14 : (x 14).v = .bool true := kval (hd 14 (by decide)).1 rfl
        obtain ⟨k0, k1, -⟩ := cells2 ((Up.tr (up_drew _) (hS.upb rfl)).blk Tz)
        clear hd
        refine ⟨?_⟩; simp only [kgoal, putsFrom, depsOf, pu0, pu1, pu2, pu3, pz0, pz1, pz2, pz3, pz4, pz5, pz6, pz7, pz8, Nat.reduceAdd, Nat.reduceBEq, ↓reduceIte, Act.put]
        simp only [h14]
        rw [if_pos (by rfl)]
        go_simp
        exact hK _ _ (Up.refl _) rfl
      · intro x w1 K hU hS hO hd hK
        have h15 : (x 15).v = .agg #[.bool bm, .slice aom nm capm] := kval (hd 15 (by decide)).1 rfl
        have h16 : (x 16).v = .agg #[.bool bz, .slice aoz nz capz] := kval (hd 16 (by decide)).1 rfl
        have h14 : (x 14).v = .bool true := kval (hd 14 (by decide)).1 rfl
        clear hd
        refine ⟨?_⟩; simp only [kgoal, putsFrom, depsOf, pu0, pu1, pu2, pu3, pz0, pz1, pz2, pz3, pz4, pz5, pz6, pz7, pz8, Nat.reduceAdd, Nat.reduceBEq, ↓reduceIte, Act.put]
        simp only [h15, h16, h14]
        rw [if_pos (by rfl)]
        go_simp
        refine (cmp_rd (M := 70368744175621) (((unhide Cm).rd (M' := 70368744175621) (by omega)).up (Up.tr (up_drew _) (hS.upb rfl))) (((unhide Cz).rd (M' := 70368744175621) (by omega)).up (Up.tr (up_drew _) (hS.upb rfl)))).mono ?_
        rintro e w2 ⟨v2, rfl, n2, u2⟩
        rw [hM1] at n2
        exact hK _ _ u2 n2
      · intro x w1 K hU hS hO hd hK
        have h17 : (x 17).v = .int .i64 (1) := kval (hd 17 (by decide)).1 rfl
        have h14 : (x 14).v = .bool true := kval (hd 14 (by decide)).1 rfl
        clear hd
        refine ⟨?_⟩; simp only [kgoal, putsFrom, depsOf, pu0, pu1, pu2, pu3, pz0, pz1, pz2, pz3, pz4, pz5, pz6, pz7, pz8, Nat.reduceAdd, Nat.reduceBEq, ↓reduceIte, Act.put]
        simp only [h17, h14]
        rw [if_pos (by rfl)]
        go_simp
        exact hK _ _ (Up.refl _) rfl
      · intro x w1 K hU hS hO hd hK
        have h18 : (x 18).v = .bool false := kval (hd 18 (by decide)).1 rfl
        have h14 : (x 14).v = .bool true := kval (hd 14 (by decide)).1 rfl
        clear hd
        refine ⟨?_⟩; simp only [kgoal, putsFrom, depsOf, pu0, pu1, pu2, pu3, pz0, pz1, pz2, pz3, pz4, pz5, pz6, pz7, pz8, Nat.reduceAdd, Nat.reduceBEq, ↓reduceIte, Act.put]
        simp only [h18, h14]
        rw [if_pos (by rfl)]
        go_simp
        exact hK _ _ (Up.refl _) rfl
      · intro x w1 K hU hS hO hd hK
        have h19 : (x 19).v = .bool false := kval (hd 19 (by decide)).1 rfl
        obtain ⟨k0, k1, -⟩ := cells2 ((Up.tr (up_drew _) (hS.upb rfl)).blk Tm)
        clear hd
        refine ⟨?_⟩; simp only [kgoal, putsFrom, depsOf, pu0, pu1, pu2, pu3, pz0, pz1, pz2, pz3, pz4, pz5, pz6, pz7, pz8, Nat.reduceAdd, Nat.reduceBEq, ↓reduceIte, Act.put]
        simp only [h19]
        rw [if_pos (by rfl)]
        go_simp
        exact hK _ _ (Up.refl _) rfl
      · intro x w1 K hU hS hO hd hK
        have h19 : (x 19).v = .bool false := kval (hd 19 (by decide)).1 rfl
        obtain ⟨k0, k1, -⟩ := cells2 ((Up.tr (up_drew _) (hS.upb rfl)).blk Tz)
        clear hd
        refine ⟨?_⟩; simp only [kgoal, putsFrom, depsOf, pu0, pu1, pu2, pu3, pz0, pz1, pz2, pz3, pz4, pz5, pz6, pz7, pz8, Nat.reduceAdd, Nat.reduceBEq, ↓reduceIte, Act.put]
        simp only [h19]
        rw [if_pos (by rfl)]
        go_simp
        exact hK _ _ (Up.refl _) rfl
      · intro x w1 K hU hS hO hd hK
        have h20 : (x 20).v = .agg #[.bool bm, .slice aom nm capm] := kval (hd 20 (by decide)).1 rfl
        have h21 : (x 21).v = .agg #[.bool bz, .slice aoz nz capz] := kval (hd 21 (by decide)).1 rfl
        have h19 : (x 19).v = .bool false := kval (hd 19 (by decide)).1 rfl
        clear hd
        refine ⟨?_⟩; simp only [kgoal, putsFrom, depsOf, pu0, pu1, pu2, pu3, pz0, pz1, pz2, pz3, pz4, pz5, pz6, pz7, pz8, Nat.reduceAdd, Nat.reduceBEq, ↓reduceIte, Act.put]
        simp only [h20, h21, h19]
        rw [if_pos (by rfl)]
        go_simp
        refine (cmp_rd (M := 70368744175621) (((unhide Cm).rd (M' := 70368744175621) (by omega)).up (Up.tr (up_drew _) (hS.upb rfl))) (((unhide Cz).rd (M' := 70368744175621) (by omega)).up (Up.tr (up_drew _) (hS.upb rfl)))).mono ?_
        rintro e w2 ⟨v2, rfl, n2, u2⟩
        rw [hM1] at n2
        exact hK _ _ u2 n2
      · intro x w1 K hU hS hO hd hK
        have h22 : (x 22).v = .int .i64 (1) := kval (hd 22 (by decide)).1 rfl
        have h19 : (x 19).v = .bool false := kval (hd 19 (by decide)).1 rfl
        clear hd
        refine ⟨?_⟩; simp only [kgoal, putsFrom, depsOf, pu0, pu1, pu2, pu3, pz0, pz1, pz2, pz3, pz4, pz5, pz6, pz7, pz8, Nat.reduceAdd, Nat.reduceBEq, ↓reduceIte, Act.put]
        simp only [h22, h19]
        rw [if_pos (by rfl)]
        go_simp
        exact hK _ _ (Up.refl _) rfl
      · intro x w1 K hU hS hO hd hK
        have h19 : (x 19).v = .bool false := kval (hd 19 (by decide)).1 rfl
        clear hd
        refine ⟨?_⟩; simp only [kgoal, putsFrom, depsOf, pu0, pu1, pu2, pu3, pz0, pz1, pz2, pz3, pz4, pz5, pz6, pz7, pz8, Nat.reduceAdd, Nat.reduceBEq, ↓reduceIte, Act.put]
        simp only [h19]
        rw [if_pos (by rfl)]
        go_simp
        exact hK _ _ (Up.refl _) rfl
      · intro x w1 K hU hS hO hd hK
        have h23 : (x 23).v = .bool false := kval (hd 23 (by decide)).1 rfl
        have h24 : (x 24).v = .bool false := kval (hd 24 (by decide)).1 rfl
        have h19 : (x 19).v = .bool false := kval (hd 19 (by decide)).1 rfl
        clear hd
        refine ⟨?_⟩; simp only [kgoal, putsFrom, depsOf, pu0, pu1, pu2, pu3, pz0, pz1, pz2, pz3, pz4, pz5, pz6, pz7, pz8, Nat.reduceAdd, Nat.reduceBEq, ↓reduceIte, Act.put]
        simp only [h23, h24, h19]
        rw [if_pos (by rfl)]
        go_simp
        exact hK _ _ (Up.refl _) rfl
      · intro x w1 K hU hS hO hd hK
        have h19 : (x 19).v = .bool false := kval (hd 19 (by decide)).1 rfl
        have h25 : (x 25).v = .bool true := kval (hd 25 (by decide)).1 rfl
        have h14 : (x 14).v = .bool true := kval (hd 14 (by decide)).1 rfl
        clear hd
        refine ⟨?_⟩; simp only [kgoal, putsFrom, depsOf, pu0, pu1, pu2, pu3, pz0, pz1, pz2, pz3, pz4, pz5, pz6, pz7, pz8, Nat.reduceAdd, Nat.reduceBEq, ↓reduceIte, Act.put]
        simp only [h19, h25, h14]
        rw [if_pos (by rfl)]
        go_simp
        exact hK _ _ (Up.refl _) rfl
      · intro x w1 K hU hS hO hd hK
        have h14 : (x 14).v = .bool true := kval (hd 14 (by decide)).1 rfl
        have h26 : (x 26).v = .bool true := kval (hd 26 (by decide)).1 rfl
        clear hd
        refine ⟨?_⟩; simp only [kgoal, putsFrom, depsOf, pu0, pu1, pu2, pu3, pz0, pz1, pz2, pz3, pz4, pz5, pz6, pz7, pz8, Nat.reduceAdd, Nat.reduceBEq, ↓reduceIte, Act.put]
        simp only [h14, h26]
        go_simp
        exact hK _ _ (Up.refl _) rfl
      · intro x w1 K hU hS hO hd hK
        have h27 : (x 27).v = .bool true := kval (hd 27 (by decide)).1 rfl
        clear hd
        refine ⟨?_⟩; simp only [kgoal, putsFrom, depsOf, pu0, pu1, pu2, pu3, pz0, pz1, pz2, pz3, pz4, pz5, pz6, pz7, pz8, Nat.reduceAdd, Nat.reduceBEq, ↓reduceIte, Act.put]
        simp only [h27]
        go_simp
        exact hK _ _ (Up.refl _) rfl
      intro x w1 hU hS hR hlo hdis
      have hfin : (x 28).v = .bool true := kval (hR 28 (by decide)) rfl
      have hG := Up.tr (up_drew _) (hS.upb rfl)
      refine ⟨?_⟩; simp only [kgoal, putsFrom, depsOf, pu0, pu1, pu2, pu3, pz0, pz1, pz2, pz3, pz4, pz5, pz6, pz7, pz8, Nat.reduceAdd, Nat.reduceBEq, ↓reduceIte, Act.put]
      rw [hfin]
      generalize (x 0).v = z0l
      generalize (x 1).v = z1l
      generalize (x 2).v = z2l
      generalize (x 3).v = z3l
      generalize (x 4).v = z4l
      generalize (x 5).v = z5l
      generalize (x 6).v = z6l
      generalize (x 7).v = z7l
      generalize (x 8).v = z8l
      generalize (x 9).v = z9l
      generalize (x 10).v = z10l
      generalize (x 11).v = z11l
      generalize (x 12).v = z12l
      generalize (x 13).v = z13l
      generalize (x 14).v = z14l
      generalize (x 15).v = z15l
      generalize (x 16).v = z16l
      generalize (x 17).v = z17l
      generalize (x 18).v = z18l
      generalize (x 19).v = z19l
      generalize (x 20).v = z20l
      generalize (x 21).v = z21l
      generalize (x 22).v = z22l
      generalize (x 23).v = z23l
      generalize (x 24).v = z24l
      generalize (x 25).v = z25l
      generalize (x 26).v = z26l
      generalize (x 27).v = z27l
      clear hR hlo hdis hS hfin
      go_wp2_with (go_at_call 20; refine (awake_any _ ((unhide HT).up hU)).mono ?_; rintro e w9 ⟨rfl, u9⟩)
      go_ret
      exact ⟨rfl, hU.tr u9⟩

end Go.Proofs.YtkmpobmpencefaaDoor
