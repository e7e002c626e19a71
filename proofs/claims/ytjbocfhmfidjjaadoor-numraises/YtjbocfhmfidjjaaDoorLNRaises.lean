/-
  What is proved here: the walk of NumRaises.
-/
import Derived.Deep.RegionHeld3
import Derived.Test.YtjbocfhmfidjjaaDoorNPow6
namespace Go.Proofs.YtjbocfhmfidjjaaDoor
open Go Go.RowKit

theorem place12 (z : Int) (w : World) : Calls Tryd.prog 46 #[.int .i64 z, .int .i64 12] w fun e w' => ∃ k : Nat, e = .returned (.int .i64 (k : Int)) ∧ w' = w ∧ k < 12 := by
  have h1 := Int.tmod_lt_of_pos z (show (0 : Int) < 12 by decide)
  have h2 : -12 < Int.tmod z 12 := Int.lt_tmod_of_pos z (by decide)
  go_enter Tryd.func46, Tryd.ntmps46
  generalize hr : Int.tmod z 12 = r at *
  rcases Int.lt_or_le r 0 with hn | hn
  · go_wp2
    go_ret
    exact ⟨(r + 12).toNat, by go_num, rfl, by omega⟩
  · go_wp2
    go_ret
    exact ⟨r.toNat, by go_num, rfl, by omega⟩

theorem bitLen_lt {x k : Nat} (h : x < 2 ^ k) : bitLen x ≤ k := by
  rcases Nat.eq_zero_or_pos x with e | e
  · rw [e, bitLen_zero]; omega
  · have h1 := (bitLen_top e).1
    rcases Nat.lt_or_ge k (bitLen x) with h2 | h2
    · exfalso
      have : 2 ^ k ≤ 2 ^ (bitLen x - 1) := Nat.pow_le_pow_right (by decide) (by omega)
      omega
    · exact h2
theorem pow_fits {X n : Nat} (hX : X < 4294967296 ^ 12) (hn : n ≤ 22) : bitLen (X ^ n) ≤ 20000 := by
  rcases Nat.eq_zero_or_pos n with e | e
  · rw [e, Nat.pow_zero]
    have : bitLen 1 = 1 := by decide
    omega
  · have h1 : X ^ n < (4294967296 ^ 12) ^ n := Nat.pow_lt_pow_left hX (by omega)
    have h2 : ∀ k, (4294967296 : Nat) ^ k = 2 ^ (32 * k) := fun k => by rw [Nat.pow_mul]
    rw [← Nat.pow_mul, h2] at h1
    have := bitLen_lt h1
    omega
theorem power_fit (a : Value) (Z : Int) (M n : Nat) (w : World) (ha : RdD Z M w a) (hM : M ≤ 2000000) (hn : n ≤ 22) (hZ : Z.natAbs < 4294967296 ^ 12) :
    Calls Tryd.prog 40 #[a, .int .i64 (n : Int), .int .i64 20000] w fun e w' => ∃ b ao k cap, e = .returned (.tuple #[.agg #[.bool b, .slice ao k cap], .bool true]) ∧ RdC (Z ^ n) 1000000000 w' (.agg #[.bool b, .slice ao k cap]) ∧ Up w w' := by
  refine (power_any a Z M n 20000 w ha hM (by omega) (by omega)).mono fun e w' he => ?_
  obtain ⟨b, ao, k, cap, h1, h2, _, h4⟩ := he
  have hf := pow_fits hZ hn
  rw [decide_eq_true hf] at h1
  exact ⟨b, ao, k, cap, h1, h2 hf, h4⟩

set_option maxRecDepth 20000 in
set_option maxHeartbeats 4000000 in
theorem numRaises_any (x1 x2 : Int) (a : Value) (b : Bool) (m : Nat) (f : Nat → Nat) (w : World) (ha : Nm w a b m f) (hd : ∀ i, i < m → f i < 4294967296) (hm : m ≤ 35184372087808) (_y1 : (Lit.int .i64 x1).wf = true) (_y2 : (Lit.int .i64 x2).wf = true) (hT : Tab w) :
    Calls Tryd.prog 14 #[a, .int .i64 x1, .int .i64 x2] w fun e w' => e = .returned (.bool true) ∧ Below w.heap.size w w' := by
  obtain ⟨v, rfl, hv⟩ := ha
  obtain ⟨ao, cap, rfl, -⟩ := id hv
  have KP1 := fun w1 => place12 x1 w1
  have KP2 := fun w1 => place12 x2 w1
  have HT := hide hT
  have HV := hide hv
  have HD := hide hd
  clear hv hd hT
  by_cases h12 : 12 < m
  · have h12I : (12 : Int) < (m : Int) := by omega
    go_enter Tryd.func14, Tryd.ntmps14
    go_wp2_with (first
      | (go_at_call 20; refine (awake_rd (HT.out.up (up_alloc _ _))).mono ?_; rintro e w9 ⟨v9, rfl, rfl, u9⟩)
      | (go_at_call_of 46 (Value.int .i64 x1); refine (KP1 _).mono ?_; rintro e w2 ⟨k, rfl, hw, hk⟩; replace hw := hw.symm; subst hw)
      | (go_at_call 46; refine (KP2 _).mono ?_; rintro e w2 ⟨j, rfl, hw, hj⟩; replace hw := hw.symm; subst hw))
    go_ret
    exact ⟨rfl, (up_alloc _ _).tr u9⟩
  · have h12I : ¬ (12 : Int) < (m : Int) := by omega
    obtain ⟨Z, hZ⟩ : ∃ Z, Z = sgn b (num 4294967296 f m) := ⟨_, rfl⟩
    have hZa : Z.natAbs < 4294967296 ^ 12 := by
      rw [hZ, sgn_natAbs]
      have h1 := num_lt HD.out
      have h2 : 4294967296 ^ m ≤ 4294967296 ^ 12 := Nat.pow_le_pow_right (by decide) (by omega)
      exact Nat.lt_of_lt_of_le h1 h2
    have HRa : Hid (∀ W, Up w W → RdD Z 12 W (.agg #[.bool b, .slice ao m cap])) := hide (fun W u => ⟨b, m, f, ⟨_, rfl, HV.out.up u⟩, HD.out, by omega, hZ.symm⟩)
    have HZa := hide hZa
    clear hZ hZa
    go_enter Tryd.func14, Tryd.ntmps14
    go_wp2_with (first
      | (go_at_call_of 46 (Value.int .i64 x1); refine (KP1 _).mono ?_; rintro e w2 ⟨k, rfl, hw, hk⟩; replace hw := hw.symm; subst hw)
      | (go_at_call_of 46 (Value.int .i64 x2); refine (KP2 _).mono ?_; rintro e w2 ⟨j, rfl, hw, hj⟩; replace hw := hw.symm; subst hw))
    refine (c_rd (HRa.out _ (up_alloc _ _)) (by omega)).mono ?_
    rintro e w3 ⟨v3, rfl, n3, u3⟩
    have r3 := n3.rd (Nat.le_refl 12)
    have HN3 := hide r3
    clear n3 r3
    have HB := hide (heap_alloc_new w (.cells #[.bool b, .slice ao m cap] 26))
    go_wp2_with fail
    refine (power_fit _ Z 12 k _ (unhide HN3) (by omega) (by omega) (unhide HZa)).mono ?_
    rintro e w4 ⟨b4, ao4, k4, cap4, rfl, r4, u4⟩
    have HR4 := hide r4
    clear r4
    have A4 := up_alloc w4 (.cells #[.bool b4, .slice ao4 k4 cap4] 26)
    have B4 := hide (heap_alloc_new w4 (.cells #[.bool b4, .slice ao4 k4 cap4] 26))
    have V4 := hide ((u3.tr u4).tr A4)
    obtain ⟨k0, k1, -⟩ := cells2 ((unhide V4).blk (unhide HB))
    go_wp2_with fail
    clear k0 k1
    refine (c_rd (HRa.out _ ((up_alloc _ _).tr (unhide V4))) (by omega)).mono ?_
    rintro e w6 ⟨v6, rfl, n6, u6⟩
    have HN6 := hide (n6.rd (Nat.le_refl 12))
    clear n6
    go_wp2_with fail
    refine (power_fit _ Z 12 j _ (unhide HN6) (by omega) (by omega) (unhide HZa)).mono ?_
    rintro e w7 ⟨b7, ao7, k7, cap7, rfl, r7, u7⟩
    have HR7 := hide r7
    clear r7
    have A7 := up_alloc w7 (.cells #[.bool b7, .slice ao7 k7 cap7] 26)
    have B7 := hide (heap_alloc_new w7 (.cells #[.bool b7, .slice ao7 k7 cap7] 26))
    have V7 := hide ((u6.tr u7).tr A7)
    obtain ⟨k0, k1, -⟩ := cells2 (((unhide V4).tr (unhide V7)).blk (unhide HB))
    have hkj : (k : Int) + (j : Int) = ((k + j : Nat) : Int) := by omega
    have HK := hide hkj
    clear hkj
    go_wp2_with fail
    clear k0 k1
    refine (c_rd (HRa.out _ ((up_alloc _ _).tr ((unhide V4).tr (unhide V7)))) (by omega)).mono ?_
    rintro e w9 ⟨v9, rfl, n9, u9⟩
    have HN9 := hide (n9.rd (Nat.le_refl 12))
    clear n9
    go_wp2_with fail
    rw [unhide HK]
    refine (power_fit _ Z 12 (k + j) _ (unhide HN9) (by omega) (by omega) (unhide HZa)).mono ?_
    rintro e w10 ⟨b10, ao10, k10, cap10, rfl, r10, u10⟩
    have HR10 := hide r10
    clear r10
    have A10 := up_alloc w10 (.cells #[.bool b10, .slice ao10 k10 cap10] 26)
    have V10 := hide ((u9.tr u10).tr A10)
    go_wp2_with fail
    obtain ⟨c0, c1, -⟩ := cells2 (heap_alloc_new w10 (.cells #[.bool b10, .slice ao10 k10 cap10] 26))
    obtain ⟨c2, c3, -⟩ := cells2 ((unhide V10).blk (unhide B7))
    obtain ⟨c4, c5, -⟩ := cells2 (((unhide V7).tr (unhide V10)).blk (unhide B4))
    have D10 := hide (heap_alloc_new w10 (.cells #[.bool b10, .slice ao10 k10 cap10] 26))
    have D7 := hide ((unhide V10).blk (unhide B7))
    have D4 := hide (((unhide V7).tr (unhide V10)).blk (unhide B4))
    have HZ4 := hide ((unhide HR4).up (A4.tr ((unhide V7).tr (unhide V10))))
    have HZ7 := hide ((unhide HR7).up (A7.tr (unhide V10)))
    have HZ10 := hide ((unhide HR10).up A10)
    have U11 := hide ((up_alloc w (.cells #[.bool b, .slice ao m cap] 26)).tr ((unhide V4).tr ((unhide V7).tr (unhide V10))))
    clear u3 u4 u6 u7 u9 u10 A4 A7 A10
    generalize w10.alloc (.cells #[.bool b10, .slice ao10 k10 cap10] 26) = W at *
    generalize w10.heap.size = g10 at *
    generalize w7.heap.size = g7 at *
    generalize w4.heap.size = g4 at *
    go_region_held3 (fun w' => w'.cell? ⟨g10, 0, none⟩ = some (.bool b10) ∧ w'.cell? ⟨g10, 1, none⟩ = some (.slice ao10 k10 cap10) ∧ w'.cell? ⟨g7, 0, none⟩ = some (.bool b7) ∧ w'.cell? ⟨g7, 1, none⟩ = some (.slice ao7 k7 cap7) ∧ w'.cell? ⟨g4, 0, none⟩ = some (.bool b4) ∧ w'.cell? ⟨g4, 1, none⟩ = some (.slice ao4 k4 cap4)) (go_keep)
      (first
        | (go_at_call 21
           refine (mul2_rd (g := W.heap.size) (X := Z ^ k) (Y := Z ^ j) (M1 := 1000000000) (M2 := 1000000000) (by exact heap_alloc_new W _) (((unhide HZ4).up (by repeat (first | exact Up.refl _ | refine Up.tr ?_ (up_drew _) | refine Up.tr ?_ (up_alloc _ _)))).rd (Nat.le_refl _)) (((unhide HZ7).up (by repeat (first | exact Up.refl _ | refine Up.tr ?_ (up_drew _) | refine Up.tr ?_ (up_alloc _ _)))).rd (Nat.le_refl _)) (by decide)).mono ?_
           rintro e w12 ⟨v12, rfl, n12, u12⟩
           have U12 : Hid (Up W w12) := hide (Up.tr (by repeat (first | exact Up.refl _ | refine Up.tr ?_ (up_drew _) | refine Up.tr ?_ (up_alloc _ _))) u12)
           obtain ⟨c02, c12, -⟩ := cells2 ((unhide U12).blk (unhide D10))
           obtain ⟨c22, c32, -⟩ := cells2 ((unhide U12).blk (unhide D7))
           obtain ⟨c42, c52, -⟩ := cells2 ((unhide U12).blk (unhide D4))
           have R12 := hide n12.rc
           clear n12 u12)
        | (go_at_call 16
           refine (same_rd (((unhide HZ10).up (unhide U12)).up (by repeat (first | exact Up.refl _ | refine Up.tr ?_ (up_drew _) | refine Up.tr ?_ (up_alloc _ _)))) ((unhide R12).up (by repeat (first | exact Up.refl _ | refine Up.tr ?_ (up_drew _) | refine Up.tr ?_ (up_alloc _ _)))) (Int.pow_add Z k j)).mono ?_
           rintro e w13 ⟨v13, rfl, rfl, u13⟩
           have U13 : Hid (Up W w13) := hide ((unhide U12).tr (Up.tr (by repeat (first | exact Up.refl _ | refine Up.tr ?_ (up_drew _) | refine Up.tr ?_ (up_alloc _ _))) u13))
           obtain ⟨c03, c13, -⟩ := cells2 ((unhide U13).blk (unhide D10))
           obtain ⟨c23, c33, -⟩ := cells2 ((unhide U13).blk (unhide D7))
           obtain ⟨c43, c53, -⟩ := cells2 ((unhide U13).blk (unhide D4))
           clear u13)
        | (go_at_call 20
           refine (awake_rd ((unhide HT).up ((unhide U11).tr ((unhide U13).tr (by repeat (first | exact Up.refl _ | refine Up.tr ?_ (up_drew _) | refine Up.tr ?_ (up_alloc _ _))))))).mono ?_
           rintro e w14 ⟨v14, rfl, rfl, u14⟩
           have U14 : Hid (Up W w14) := hide ((unhide U13).tr (Up.tr (by repeat (first | exact Up.refl _ | refine Up.tr ?_ (up_drew _) | refine Up.tr ?_ (up_alloc _ _))) u14))
           obtain ⟨c04, c14, -⟩ := cells2 ((unhide U14).blk (unhide D10))
           obtain ⟨c24, c34, -⟩ := cells2 ((unhide U14).blk (unhide D7))
           obtain ⟨c44, c54, -⟩ := cells2 ((unhide U14).blk (unhide D4))
           clear u14))
    all_goals
      go_wp2_with fail
      go_ret
      exact ⟨rfl, (unhide U11).tr (unhide U14)⟩

end Go.Proofs.YtjbocfhmfidjjaaDoor
