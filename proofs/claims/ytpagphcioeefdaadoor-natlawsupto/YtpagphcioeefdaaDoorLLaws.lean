/-
  What is proved here: tandemlaw01.NatLaws answers true, whatever three lists of at most 1048576 limbs it is handed, and turns nothing that was there.
-/
import Derived.Test.YtpagphcioeefdaaDoorThree
namespace Go.Proofs.YtpagphcioeefdaaDoor
open Go Go.RowKit

theorem mul_turn (A B D : Nat) : A * B * D = D * B * A := by
  rw [Nat.mul_comm (D * B) A, Nat.mul_comm D B, Nat.mul_assoc]

set_option maxRecDepth 4000 in
set_option maxHeartbeats 8000000 in
theorem laws_walk (v u x : Value) (n m r : Nat) (f q fd : Nat → Nat) (w : World) (hv : Sl .u32 w v n f) (hu : Sl .u32 w u m q) (hx : Sl .u32 w x r fd)
    (hf : ∀ i, i < n → f i < 4294967296) (hq : ∀ i, i < m → q i < 4294967296) (hh : ∀ i, i < r → fd i < 4294967296) (hn : n ≤ 1048576) (hm : m ≤ 1048576) (hr : r ≤ 1048576) :
    Calls Tryd.prog 9 #[v, u, x] w fun e w' => e = .returned (.bool true) ∧ Below w.heap.size w w' := by
  go_enter Tryd.func9, Tryd.ntmps9
  go_wp2_with fail
  refine (c_any _ n f _ hv (by omega)).mono ?_
  rintro e w1 ⟨a1, rfl, o1, u1⟩
  replace u1 : Up w w1 := u1
  have U : Up w w1 := u1
  go_wp2_with fail
  refine (c_any _ m q _ (hu.up U) (by omega)).mono ?_
  rintro e w2 ⟨a2, rfl, o2, u2⟩
  replace u2 : Up w1 w2 := u2
  replace U : Up w w2 := U.tr u2
  go_wp2_with fail
  refine (c_any _ r fd _ (hx.up U) (by omega)).mono ?_
  rintro e w3 ⟨a3, rfl, o3, u3⟩
  replace u3 : Up w2 w3 := u3
  replace U : Up w w3 := U.tr u3
  obtain ⟨ao3, cap3, ea3, -⟩ := id o3.sl
  subst ea3
  go_wp2_with fail
  refine (add3 _ _ _ n m r 1048576 f q fd _ (o1.sl.up (u2.tr u3)) (o2.sl.up u3) o3.sl hf hq hh (by omega) (by omega) (by omega) (by omega)).mono ?_
  rintro e w4 ⟨a4, n4, f4, rfl, o4, u4, c4, l4, p4⟩
  replace u4 : Up w3 w4 := u4
  replace U : Up w w4 := U.tr u4
  have P4 := hide p4
  clear p4
  clear o1
  clear o2
  clear o3
  go_wp2_with fail
  refine (c_any _ r fd _ (hx.up U) (by omega)).mono ?_
  rintro e w5 ⟨a5, rfl, o5, u5⟩
  replace u5 : Up w4 w5 := u5
  replace U : Up w w5 := U.tr u5
  go_wp2_with fail
  refine (c_any _ m q _ (hu.up U) (by omega)).mono ?_
  rintro e w6 ⟨a6, rfl, o6, u6⟩
  replace u6 : Up w5 w6 := u6
  replace U : Up w w6 := U.tr u6
  go_wp2_with fail
  refine (c_any _ n f _ (hv.up U) (by omega)).mono ?_
  rintro e w7 ⟨a7, rfl, o7, u7⟩
  replace u7 : Up w6 w7 := u7
  replace U : Up w w7 := U.tr u7
  go_wp2_with fail
  refine (add2 _ _ m n 1048576 q f _ (o6.sl.up u7) o7.sl hq hf (by omega) (by omega) (by omega)).mono ?_
  rintro e w8 ⟨a8, n8, f8, rfl, o8, u8, c8, l8, p8⟩
  replace u8 : Up w7 w8 := u8
  replace U : Up w w8 := U.tr u8
  have P8 := hide p8
  clear p8
  go_wp2_with fail
  refine (add2 _ _ r n8 1048577 fd f8 _ (o5.sl.up (u6.tr (u7.tr u8))) o8.sl hh c8.1 (by omega) (by omega) (by omega)).mono ?_
  rintro e w9 ⟨a9, n9, f9, rfl, o9, u9, c9, l9, p9⟩
  replace u9 : Up w8 w9 := u9
  replace U : Up w w9 := U.tr u9
  have P9 := hide p9
  clear p9
  clear o5
  clear o6
  clear o7
  clear o8
  go_wp2_with fail
  refine (same_num _ _ n4 n9 f4 f9 _ (o4.sl.up (u5.tr (u6.tr (u7.tr (u8.tr u9))))) o9.sl c4 c9 (by rw [unhide P4, unhide P9, unhide P8]; omega)).mono ?_
  rintro e w10 ⟨rfl, u10⟩
  replace u10 : Up w9 w10 := u10
  replace U : Up w w10 := U.tr u10
  clear o4
  clear o9
  go_wp2_with fail
  refine (c_any _ n f _ (hv.up U) (by omega)).mono ?_
  rintro e w11 ⟨a11, rfl, o11, u11⟩
  replace u11 : Up w10 w11 := u11
  replace U : Up w w11 := U.tr u11
  go_wp2_with fail
  refine (c_any _ m q _ (hu.up U) (by omega)).mono ?_
  rintro e w12 ⟨a12, rfl, o12, u12⟩
  replace u12 : Up w11 w12 := u12
  replace U : Up w w12 := U.tr u12
  go_wp2_with fail
  refine (c_any _ r fd _ (hx.up U) (by omega)).mono ?_
  rintro e w13 ⟨a13, rfl, o13, u13⟩
  replace u13 : Up w12 w13 := u13
  replace U : Up w w13 := U.tr u13
  obtain ⟨ao13, cap13, ea13, -⟩ := id o13.sl
  subst ea13
  go_wp2_with fail
  refine (mul3 _ _ _ n m r f q fd _ (o11.sl.up (u12.tr u13)) (o12.sl.up u13) o13.sl hf hq hh (by omega)).mono ?_
  rintro e w14 ⟨a14, n14, f14, rfl, o14, u14, c14, l14, p14⟩
  replace u14 : Up w13 w14 := u14
  replace U : Up w w14 := U.tr u14
  have P14 := hide p14
  clear p14
  clear o11
  clear o12
  clear o13
  go_wp2_with fail
  refine (c_any _ r fd _ (hx.up U) (by omega)).mono ?_
  rintro e w15 ⟨a15, rfl, o15, u15⟩
  replace u15 : Up w14 w15 := u15
  replace U : Up w w15 := U.tr u15
  go_wp2_with fail
  refine (c_any _ m q _ (hu.up U) (by omega)).mono ?_
  rintro e w16 ⟨a16, rfl, o16, u16⟩
  replace u16 : Up w15 w16 := u16
  replace U : Up w w16 := U.tr u16
  go_wp2_with fail
  refine (mul2 _ _ r m fd q _ (o15.sl.up u16) o16.sl hh hq (by omega)).mono ?_
  rintro e w17 ⟨a17, n17, f17, rfl, o17, u17, c17, l17, p17⟩
  replace u17 : Up w16 w17 := u17
  replace U : Up w w17 := U.tr u17
  have P17 := hide p17
  clear p17
  go_wp2_with fail
  refine (c_any _ n f _ (hv.up U) (by omega)).mono ?_
  rintro e w18 ⟨a18, rfl, o18, u18⟩
  replace u18 : Up w17 w18 := u18
  replace U : Up w w18 := U.tr u18
  go_wp2_with fail
  refine (mul2 _ _ n17 n f17 f _ (o17.sl.up u18) o18.sl c17.1 hf (by omega)).mono ?_
  rintro e w19 ⟨a19, n19, f19, rfl, o19, u19, c19, l19, p19⟩
  replace u19 : Up w18 w19 := u19
  replace U : Up w w19 := U.tr u19
  have P19 := hide p19
  clear p19
  clear o15
  clear o16
  clear o18
  clear o17
  go_wp2_with fail
  refine (same_num _ _ n14 n19 f14 f19 _ (o14.sl.up (u15.tr (u16.tr (u17.tr (u18.tr u19))))) o19.sl c14 c19 (by rw [unhide P14, unhide P19, unhide P17]; exact mul_turn _ _ _)).mono ?_
  rintro e w20 ⟨rfl, u20⟩
  replace u20 : Up w19 w20 := u20
  replace U : Up w w20 := U.tr u20
  clear o14
  clear o19
  go_wp2_with fail
  refine (c_any _ n f _ (hv.up U) (by omega)).mono ?_
  rintro e w21 ⟨a21, rfl, o21, u21⟩
  replace u21 : Up w20 w21 := u21
  replace U : Up w w21 := U.tr u21
  go_wp2_with fail
  refine (c_any _ m q _ (hu.up U) (by omega)).mono ?_
  rintro e w22 ⟨a22, rfl, o22, u22⟩
  replace u22 : Up w21 w22 := u22
  replace U : Up w w22 := U.tr u22
  go_wp2_with fail
  refine (c_any _ r fd _ (hx.up U) (by omega)).mono ?_
  rintro e w23 ⟨a23, rfl, o23, u23⟩
  replace u23 : Up w22 w23 := u23
  replace U : Up w w23 := U.tr u23
  go_wp2_with fail
  refine (add2 _ _ m r 1048576 q fd _ (o22.sl.up u23) o23.sl hq hh (by omega) (by omega) (by omega)).mono ?_
  rintro e w24 ⟨a24, n24, f24, rfl, o24, u24, c24, l24, p24⟩
  replace u24 : Up w23 w24 := u24
  replace U : Up w w24 := U.tr u24
  have P24 := hide p24
  clear p24
  go_wp2_with fail
  refine (mul2 _ _ n n24 f f24 _ (o21.sl.up (u22.tr (u23.tr u24))) o24.sl hf c24.1 (by omega)).mono ?_
  rintro e w25 ⟨a25, n25, f25, rfl, o25, u25, c25, l25, p25⟩
  replace u25 : Up w24 w25 := u25
  replace U : Up w w25 := U.tr u25
  have P25 := hide p25
  clear p25
  clear o21
  clear o22
  clear o23
  clear o24
  go_wp2_with fail
  refine (c_any _ n f _ (hv.up U) (by omega)).mono ?_
  rintro e w26 ⟨a26, rfl, o26, u26⟩
  replace u26 : Up w25 w26 := u26
  replace U : Up w w26 := U.tr u26
  go_wp2_with fail
  refine (c_any _ m q _ (hu.up U) (by omega)).mono ?_
  rintro e w27 ⟨a27, rfl, o27, u27⟩
  replace u27 : Up w26 w27 := u27
  replace U : Up w w27 := U.tr u27
  go_wp2_with fail
  refine (mul2 _ _ n m f q _ (o26.sl.up u27) o27.sl hf hq (by omega)).mono ?_
  rintro e w28 ⟨a28, n28, f28, rfl, o28, u28, c28, l28, p28⟩
  replace u28 : Up w27 w28 := u28
  replace U : Up w w28 := U.tr u28
  have P28 := hide p28
  clear p28
  go_wp2_with fail
  refine (c_any _ n f _ (hv.up U) (by omega)).mono ?_
  rintro e w29 ⟨a29, rfl, o29, u29⟩
  replace u29 : Up w28 w29 := u29
  replace U : Up w w29 := U.tr u29
  go_wp2_with fail
  refine (c_any _ r fd _ (hx.up U) (by omega)).mono ?_
  rintro e w30 ⟨a30, rfl, o30, u30⟩
  replace u30 : Up w29 w30 := u30
  replace U : Up w w30 := U.tr u30
  go_wp2_with fail
  refine (mul2 _ _ n r f fd _ (o29.sl.up u30) o30.sl hf hh (by omega)).mono ?_
  rintro e w31 ⟨a31, n31, f31, rfl, o31, u31, c31, l31, p31⟩
  replace u31 : Up w30 w31 := u31
  replace U : Up w w31 := U.tr u31
  have P31 := hide p31
  clear p31
  go_wp2_with fail
  refine (add2 _ _ n28 n31 2097152 f28 f31 _ (o28.sl.up (u29.tr (u30.tr u31))) o31.sl c28.1 c31.1 (by omega) (by omega) (by omega)).mono ?_
  rintro e w32 ⟨a32, n32, f32, rfl, o32, u32, c32, l32, p32⟩
  replace u32 : Up w31 w32 := u32
  replace U : Up w w32 := U.tr u32
  have P32 := hide p32
  clear p32
  clear o26
  clear o27
  clear o29
  clear o30
  clear o28
  clear o31
  go_wp2_with fail
  refine (same_num _ _ n25 n32 f25 f32 _ (o25.sl.up (u26.tr (u27.tr (u28.tr (u29.tr (u30.tr (u31.tr u32))))))) o32.sl c25 c32 (by rw [unhide P25, unhide P24, unhide P32, unhide P28, unhide P31, Nat.mul_add])).mono ?_
  rintro e w33 ⟨rfl, u33⟩
  replace u33 : Up w32 w33 := u33
  replace U : Up w w33 := U.tr u33
  clear o25
  clear o32
  go_wp2_with fail
  refine (c_any _ n f _ (hv.up U) (by omega)).mono ?_
  rintro e w34 ⟨a34, rfl, o34, u34⟩
  replace u34 : Up w33 w34 := u34
  replace U : Up w w34 := U.tr u34
  go_wp2_with fail
  refine (c_any _ m q _ (hu.up U) (by omega)).mono ?_
  rintro e w35 ⟨a35, rfl, o35, u35⟩
  replace u35 : Up w34 w35 := u35
  replace U : Up w w35 := U.tr u35
  go_wp2_with fail
  refine (add2 _ _ n m 1048576 f q _ (o34.sl.up u35) o35.sl hf hq (by omega) (by omega) (by omega)).mono ?_
  rintro e w36 ⟨a36, n36, f36, rfl, o36, u36, c36, l36, p36⟩
  replace u36 : Up w35 w36 := u36
  replace U : Up w w36 := U.tr u36
  have P36 := hide p36
  clear p36
  go_wp2_with fail
  refine (c_any _ m q _ (hu.up U) (by omega)).mono ?_
  rintro e w37 ⟨a37, rfl, o37, u37⟩
  replace u37 : Up w36 w37 := u37
  replace U : Up w w37 := U.tr u37
  go_wp2_with fail
  refine (sub_ge _ _ n36 m f36 q _ (o36.sl.up u37) o37.sl c36.1 hq (by omega) (by rw [unhide P36]; omega)).mono ?_
  rintro e w38 ⟨a38, n38, f38, rfl, o38, u38, c38, l38, p38⟩
  replace u38 : Up w37 w38 := u38
  replace U : Up w w38 := U.tr u38
  have P38 := hide p38
  clear p38
  clear o34
  clear o35
  clear o37
  clear o36
  go_wp2_with fail
  refine (c_any _ n f _ (hv.up U) (by omega)).mono ?_
  rintro e w39 ⟨a39, rfl, o39, u39⟩
  replace u39 : Up w38 w39 := u39
  replace U : Up w w39 := U.tr u39
  go_wp2_with fail
  refine (add2 _ _ n 0 1048576 f (fun _ => 0) _ o39.sl (sl_nil _ _) hf (fun i hi => by omega) (by omega) (by omega) (by omega)).mono ?_
  rintro e w40 ⟨a40, n40, f40, rfl, o40, u40, c40, l40, p40⟩
  replace u40 : Up w39 w40 := u40
  replace U : Up w w40 := U.tr u40
  have P40 := hide p40
  clear p40
  go_wp2_with fail
  refine (same_num _ _ n38 n40 f38 f40 _ (o38.sl.up (u39.tr u40)) o40.sl c38 c40 (by have e1 := unhide P38; have e2 := unhide P36; have e3 := unhide P40; rw [e3, num_zero]; omega)).mono ?_
  rintro e w41 ⟨rfl, u41⟩
  replace u41 : Up w40 w41 := u41
  replace U : Up w w41 := U.tr u41
  clear o38
  clear o40
  clear o39
  go_wp2_with fail
  refine (awake_any _).mono ?_
  rintro e w42 ⟨rfl, u42⟩
  replace u42 : Up w41 w42 := u42
  replace U : Up w w42 := U.tr u42
  go_wp2_with fail
  go_ret
  exact ⟨rfl, U⟩

end Go.Proofs.YtpagphcioeefdaaDoor
