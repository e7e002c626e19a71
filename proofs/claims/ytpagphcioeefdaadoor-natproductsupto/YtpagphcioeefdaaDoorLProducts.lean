/-
  What is proved here: tandemlaw01.NatProducts answers true, whatever lists of at most 1048576 limbs together it is handed, and turns nothing that was there.
-/
import Derived.Test.YtpagphcioeefdaaDoorLSums2
import Derived.Test.YtpagphcioeefdaaDoorRMul2
namespace Go.Proofs.YtpagphcioeefdaaDoor
open Go Go.RowKit

theorem prod_two (n m : Nat) (f q : Nat → Nat) (ns : Nat → Nat) (fs : Nat → Nat → Nat) (k : Nat) : prodN (fun i => num 4294967296 (two f q fs i) (two n m ns i)) (2 + k) = num 4294967296 f n * num 4294967296 q m * prodN (fun i => num 4294967296 (fs i) (ns i)) k :=
  prodN_two _ _ _ _ k rfl rfl (fun i => by simp only [two_two])

set_option maxRecDepth 4000 in
set_option maxHeartbeats 4000000 in
theorem prods_walk (v u : Value) (mo : Option Addr) (k capm n m : Nat) (f q : Nat → Nat) (vs : Nat → Value) (ns : Nat → Nat) (fs : Nat → Nat → Nat) (w : World)
    (hv : Sl .u32 w v n f) (hu : Sl .u32 w u m q) (hm : Rds w mo k vs) (hmn : mo = none → k = 0 ∧ capm = 0) (hs : ∀ i, i < k → Sl .u32 w (vs i) (ns i) (fs i))
    (hf : ∀ i, i < n → f i < 4294967296) (hq : ∀ i, i < m → q i < 4294967296) (hfs : ∀ j, j < k → ∀ i, i < ns j → fs j i < 4294967296)
    (hn : n ≤ 1048576) (hmM : m ≤ 1048576) (hns : ∀ j, j < k → ns j ≤ 1048576) (hk : k ≤ 1048576) (hkc : k ≤ capm) (hsum : sumN ns k ≤ 1048576) :
    Calls Tryd.prog 4 #[v, u, .slice mo k capm] w fun e w' => e = .returned (.bool true) ∧ Below w.heap.size w w' := by
  obtain ⟨i, hi, hz0, hz1, hz2⟩ := info_parts infoS
  have HL := hide (And.intro hs (And.intro hfs hns))
  have HV := hide (And.intro hv (And.intro hu (And.intro hf hq)))
  have HM := hide hm
  obtain ⟨ao, cap, rfl, -⟩ := id hv
  obtain ⟨bo, capb, rfl, -⟩ := id hu
  clear hs hfs hns hv hu hf hq
  go_enter Tryd.func4, Tryd.ntmps4
  go_wp2_with fail
  go_loopw [7, 8] (fun t7 t8 wr => ∃ (j : Nat) (va : Nat → Value), j ≤ k ∧ t8 = .int .i64 j ∧ wr.ownsRow w.heap.size 22 1 t7 j (valsOf va j) ∧ Up w wr ∧ Hid (Copies wr w.heap.size t7 j va ns fs)) (fun _ t8 _ => k - (intOf t8).toNat)
  case atStart => exact ⟨0, fun _ => .slice none 0 0, Nat.zero_le _, rfl, World.ownsRow_nil _ _ _ _, Up.refl _, hide (fun i hi => by omega)⟩
  case round =>
    obtain ⟨j, va, hj, rfl, row, up, HC⟩ := hrel
    have hszr := Below.size up
    by_cases hjk : j < k
    · rcases hm with hm | ⟨b, off, rfl, hc⟩
      · omega
      have sj := (unhide HL).1 j hjk
      obtain ⟨aoj, capj, ej, -⟩ := id sj
      have hx0 := hc j hjk
      have hbl : b < w.heap.size := World.block_lt_of_cell? w _ hx0
      rw [ej] at hx0 sj
      have hc0 : wr.cell? ⟨b, off + j, none⟩ = some (.slice aoj (ns j) capj) := (Below.cell up (p := ⟨b, off + j, none⟩) hbl).trans hx0
      have hnj := (unhide HL).2.2 j hjk
      have HSJ := hide sj
      clear hc hx0 ej sj
      generalize hqn : ns j = nj at *
      have HQ := hide hqn
      clear hqn
      go_wp2_with fail
      refine (c_any _ nj (fs j) _ ((unhide HSJ).up up) (by omega)).mono ?_
      rintro e w1 ⟨v1, rfl, o1, u1⟩
      replace u1 : Up wr w1 := u1
      obtain ⟨ao1, cap1, rfl, -⟩ := id o1.sl
      have row1 := ownsRow_up row u1
      have hsz1 := Below.size u1
      go_wp2_with (at_builtin; refine wpList_append_own_at _ rfl _ _ 23 rfl w.heap.size 22 i (.slice none 0 0) 1 24 Tryd.underlying23 hi hz0 hz1 hz2 rfl (by decide) _ _ _ rfl (row1.alloc _) ⟨w1.heap.size, 0, none⟩ 1 1 [.slice ao1 nj cap1] rfl rfl (cells_one _ _ _) (one_slice _ _ _) (by unfold maxLen; omega) (by omega) (by simp; omega) ?_; intro v4 w4 hown4 hgrow4 hx4 hat4)
      rw [valsOf_push] at hown4
      have hup4 : Up w w4 := (Below.alloc (up.tr u1) (by omega) _).grown hgrow4 (by simp; omega) (fun g hg => (row1.lt g hg).1)
      have HC4 := hide (Copies.push (unhide HC) hszr u1 (by rw [unhide HQ]; exact o1) (below_alloc w1 _) hgrow4 (fun g hg => (row.lt g hg).2) hat4 rfl)
      clear HC row row1 o1 hgrow4 hx4 hat4 up u1
      go_roundw
      case rel => exact ⟨j + 1, _, by omega, by go_num, hown4, hup4, HC4⟩
      case measure => simp [intOf]; omega
    · obtain rfl : j = k := by omega
      clear hm
      go_wp2_with fail
      refine (c_any _ n f _ ((unhide HV).1.up up) (by omega)).mono ?_
      rintro e w1 ⟨a1, rfl, o1, u1⟩
      replace u1 : Up wr w1 := u1
      go_wp2_with fail
      refine (c_any _ m q _ ((unhide HV).2.1.up (up.tr u1)) (by omega)).mono ?_
      rintro e w2 ⟨a2, rfl, o2, u2⟩
      replace u2 : Up w1 w2 := u2
      go_wp2_with fail
      refine (mul2 _ _ n m f q _ (o1.sl.up u2) o2.sl (unhide HV).2.2.1 (unhide HV).2.2.2 (by omega)).mono ?_
      rintro e w3 ⟨v3, n3, f3, rfl, o3, u3, c3, -, s3⟩
      replace u3 : Up w2 w3 := u3
      have S3 := hide s3
      have U3 : Up w w3 := ((up.tr u1).tr u2).tr u3
      clear s3
      go_wp2_with fail
      have hR := rMul_any 2 2 _ (two _ _ vs) (two n m ns) (two f q fs) _ (rds_two w3 (.slice ao n cap) (.slice bo m capb) 22 vs) (sl_two (k := 0) (((unhide HV).1.up U3).up (below_alloc w3 _)) (((unhide HV).2.1.up U3).up (below_alloc w3 _)) (fun i hi => by omega)) (dig_two (k := 0) (unhide HV).2.2.1 (unhide HV).2.2.2 (fun i hi => by omega)) (by rw [show (2 : Nat) = 2 + 0 from rfl, sumN_two n m ns _ 0 rfl rfl (two_two n m ns)]; simp [sumN]; omega)
      have HR := hide hR
      clear hR
      refine (unhide HR).mono ?_
      rintro e w4 ⟨n4, f4, v4, rfl, o4, u4, c4, s4⟩
      replace u4 : Up _ w4 := u4
      have S4 := hide s4
      have U4 : Up w3 w4 := Up.tr (below_alloc w3 _) u4
      clear s4 HR o1 o2
      have E4 : Hid (num 4294967296 f3 n3 = num 4294967296 f4 n4) := hide (by rw [unhide S3, unhide S4]; simp [prodN, two])
      go_wp2_with fail
      refine (same_num _ _ n3 n4 f3 f4 _ (o3.sl.up U4) o4.sl c3 c4 (unhide E4)).mono ?_
      rintro e w5 ⟨rfl, u5⟩
      replace u5 : Up w4 w5 := u5
      have R5 : Up wr w5 := (((u1.tr u2).tr u3).tr U4).tr u5
      clear E4 S3 S4 o3 o4 c3 c4 u1 u2 u3 u4 u5 U3 U4
      have U5 : Up w w5 := up.tr R5
      go_wp2_with fail
      refine (c_any _ n f _ ((unhide HV).1.up U5) (by omega)).mono ?_
      rintro e w6 ⟨a6, rfl, o6, u6⟩
      replace u6 : Up w5 w6 := u6
      go_wp2_with fail
      refine (c_any _ m q _ ((unhide HV).2.1.up (U5.tr u6)) (by omega)).mono ?_
      rintro e w7 ⟨a7, rfl, o7, u7'⟩
      replace u7' : Up w6 w7 := u7'
      have R7 : Up wr w7 := (R5.tr u6).tr u7'
      obtain ⟨mo7, cap7, e7, hmo7, hr7⟩ := Rds.of_row (ownsRow_up row R7)
      subst e7
      go_wp2_with fail
      refine (mul_any _ _ n m j cap7 f q mo7 va ns fs _ (o6.sl.up u7') o7.sl hr7 hmo7 (fun i hi => (unhide HC i hi).1.sl.up R7) (unhide HV).2.2.1 (unhide HV).2.2.2 (unhide HL).2.1 (by omega) (by omega)).mono ?_
      rintro e w8 ⟨v8, n8, f8, rfl, o8, u8, c8, -, s8⟩
      replace u8 : Up w7 w8 := u8
      have S8 := hide s8
      have U8 : Up w w8 := ((U5.tr u6).tr u7').tr u8
      clear s8 o6 o7 hr7
      cases mo with
      | none =>
        obtain ⟨rfl, rfl⟩ := hmn rfl
        have U9 : Up w8 (w8.alloc (.cells #[.slice ao n cap, .slice bo m capb] 22)) := below_alloc w8 _
        have HR9 := hide (rMul_any 2 2 _ (two _ _ vs) (two n m ns) (two f q fs) _ (rds_two w8 (.slice ao n cap) (.slice bo m capb) 22 vs) (sl_two (k := 0) (((unhide HV).1.up U8).up U9) (((unhide HV).2.1.up U8).up U9) (fun i hi => by omega)) (dig_two (k := 0) (unhide HV).2.2.1 (unhide HV).2.2.2 (fun i hi => by omega)) (by rw [show (2 : Nat) = 2 + 0 from rfl, sumN_two n m ns _ 0 rfl rfl (two_two n m ns)]; simp [sumN]; omega))
        go_wp2_with fail
        refine (unhide HR9).mono ?_
        rintro e w10 ⟨n10, f10, v10, rfl, o10, u10, c10, s10⟩
        replace u10 : Up _ w10 := u10
        have E10 : Hid (num 4294967296 f8 n8 = num 4294967296 f10 n10) := hide (by rw [unhide S8, s10]; exact (prod_two n m f q ns fs 0).symm)
        have U10 : Up w8 w10 := U9.tr u10
        clear s10 HR9
        go_wp2_with fail
        refine (same_num _ _ n8 n10 f8 f10 _ (o8.sl.up U10) o10.sl c8 c10 (unhide E10)).mono ?_
        rintro e w11 ⟨rfl, u11⟩
        replace u11 : Up w10 w11 := u11
        go_wp2_with fail
        refine (awake_any _).mono ?_
        rintro e w12 ⟨rfl, u12⟩
        replace u12 : Up w11 w12 := u12
        go_wp2_with fail
        go_ret
        exact ⟨rfl, ((U8.tr U10).tr u11).tr u12⟩
      | some ad =>
        have hone2 : ∀ x ∈ valsOf vs j, x.oneCell' = true := by
          intro x hx
          obtain ⟨y, hy, rfl⟩ := List.mem_map.1 hx
          obtain ⟨ao, cap, e, -⟩ := (unhide HL).1 y (by simpa using hy)
          rw [e]
          rfl
        have HO := hide hone2
        have HCC := hide ((unhide HM).cells (U8.tr (below_alloc w8 (.cells #[.slice ao n cap, .slice bo m capb] 22))) ad rfl)
        clear hone2
        go_wp2_with (at_builtin; refine wpList_append_own_g _ (by rfl) (.tmp 42) (.tmp 43) 23 rfl w8.heap.size 22 i (.slice none 0 0) 1 24 Tryd.underlying23 hi hz0 hz1 hz2 rfl (by decide) _ 2 [.slice ao n cap, .slice bo m capb] rfl (World.ownsRow_lit w8 #[.slice ao n cap, .slice bo m capb] 2 (Nat.le_refl _) (by unfold maxLen; omega) rfl) ad j capm (valsOf vs j) rfl (by rw [valsOf_length]; omega) (unhide HCC) (unhide HO) (by unfold maxLen; omega) (by omega) (by simp) ?_; intro v9 w9 hown9 hgrow9 hx9)
        rw [vals_two] at hown9
        have U9 : Up w8 w9 := (below_alloc w8 _).grown hgrow9 (by simp) (fun g hg => by cases hg; exact Nat.le_refl _)
        obtain ⟨mo9, cap9, rfl, -, hr9⟩ := Rds.of_row hown9
        have HR9 := hide (rMul_any (2 + j) cap9 _ (two _ _ vs) (two n m ns) (two f q fs) _ hr9 (sl_two ((unhide HV).1.up (U8.tr U9)) ((unhide HV).2.1.up (U8.tr U9)) (fun i hi => ((unhide HL).1 i hi).up (U8.tr U9))) (dig_two (unhide HV).2.2.1 (unhide HV).2.2.2 (unhide HL).2.1) (by rw [sumN_two n m ns _ j rfl rfl (two_two n m ns)]; omega))
        clear hown9 hgrow9 hx9 hr9 HO HCC
        refine (unhide HR9).mono ?_
        rintro e w10 ⟨n10, f10, v10, rfl, o10, u10, c10, s10⟩
        replace u10 : Up _ w10 := u10
        have E10 : Hid (num 4294967296 f8 n8 = num 4294967296 f10 n10) := hide (by rw [unhide S8, s10]; exact (prod_two n m f q ns fs j).symm)
        have U10 : Up w8 w10 := U9.tr u10
        clear s10 HR9
        go_wp2_with fail
        refine (same_num _ _ n8 n10 f8 f10 _ (o8.sl.up U10) o10.sl c8 c10 (unhide E10)).mono ?_
        rintro e w11 ⟨rfl, u11⟩
        replace u11 : Up w10 w11 := u11
        go_wp2_with fail
        refine (awake_any _).mono ?_
        rintro e w12 ⟨rfl, u12⟩
        replace u12 : Up w11 w12 := u12
        go_wp2_with fail
        go_ret
        exact ⟨rfl, ((U8.tr U10).tr u11).tr u12⟩

end Go.Proofs.YtpagphcioeefdaaDoor
