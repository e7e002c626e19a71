/-
  What is proved here: tandemlaw01.NatSquares answers true, whatever two lists it is handed, and turns nothing that was there.
-/
import Derived.Test.YtpagphcioeefdaaDoorUp
namespace Go.Proofs.YtpagphcioeefdaaDoor
open Go Go.RowKit

set_option maxRecDepth 4000 in
set_option maxHeartbeats 4000000 in
theorem squares_walk (v u : Value) (n m : Nat) (f q : Nat → Nat) (w : World) (hv : Sl .u32 w v n f) (hu : Sl .u32 w u m q)
    (hf : ∀ i, i < n → f i < 4294967296) (hq : ∀ i, i < m → q i < 4294967296) (hn : n ≤ 35184372087808) (hm : m ≤ 35184372087808) :
    Calls Tryd.prog 13 #[v, u] w fun e w' => e = .returned (.bool true) ∧ Below w.heap.size w w' := by
  rcases Nat.lt_or_ge (num 4294967296 f n) (num 4294967296 q m) with hlt | hge
  · have HLT := hide hlt
    clear hlt
    go_enter Tryd.func13, Tryd.ntmps13
    go_wp2_with fail
    refine (c_any _ n f _ hv (by omega)).mono ?_
    rintro e w1 ⟨a1, rfl, o1, u1⟩
    replace u1 : Up w w1 := u1
    go_wp2_with fail
    refine (c_any _ m q _ (hu.up u1) (by omega)).mono ?_
    rintro e w2 ⟨a2, rfl, o2, u2⟩
    replace u2 : Up w1 w2 := u2
    go_wp2_with fail
    refine (sub_lt _ _ n m f q _ (o1.sl.up u2) o2.sl hf hq (unhide HLT)).mono ?_
    rintro e w3 ⟨rfl, u3⟩
    replace u3 : Up w w3 := u1.tr (u2.tr u3)
    clear o1 o2 u1 u2
    go_wp2_with fail
    refine (c_any _ n f _ (hv.up u3) (by omega)).mono ?_
    rintro e w4 ⟨a4, rfl, o4, u4⟩
    replace u4 : Up w3 w4 := u4
    go_wp2_with fail
    refine (c_any _ m q _ (hu.up (u3.tr u4)) (by omega)).mono ?_
    rintro e w5 ⟨a5, rfl, o5, u5⟩
    replace u5 : Up w4 w5 := u5
    go_wp2_with fail
    refine (cmp_any _ _ n m f q _ (o4.sl.up u5) o5.sl hf hq).mono ?_
    rintro e w6 ⟨rfl, u6⟩
    replace u6 : Up w w6 := u3.tr (u4.tr (u5.tr u6))
    rw [cmpN_lt (unhide HLT)]
    clear o4 o5 u3 u4 u5
    go_wp2_with fail
    refine (awake_any _).mono ?_
    rintro e w7 ⟨rfl, u7⟩
    replace u7 : Up w w7 := u6.tr u7
    go_wp2_with fail
    go_ret
    exact ⟨rfl, u7⟩
  · have HGE := hide hge
    clear hge
    go_enter Tryd.func13, Tryd.ntmps13
    go_wp2_with fail
    refine (c_any _ n f _ hv (by omega)).mono ?_
    rintro e w1 ⟨a1, rfl, o1, u1⟩
    replace u1 : Up w w1 := u1
    go_wp2_with fail
    refine (c_any _ m q _ (hu.up u1) (by omega)).mono ?_
    rintro e w2 ⟨a2, rfl, o2, u2⟩
    replace u2 : Up w1 w2 := u2
    go_wp2_with fail
    refine (sub_ge _ _ n m f q _ (o1.sl.up u2) o2.sl hf hq (by omega) (unhide HGE)).mono ?_
    rintro e w3 ⟨a3, n3, f3, rfl, o3, u3, c3, l3, p3⟩
    replace u3 : Up w w3 := u1.tr (u2.tr u3)
    have P3 := hide p3
    clear o1 o2 u1 u2 p3
    go_wp2_with fail
    refine (c_any _ n f _ (hv.up u3) (by omega)).mono ?_
    rintro e w4 ⟨a4, rfl, o4, u4⟩
    replace u4 : Up w3 w4 := u4
    go_wp2_with fail
    refine (c_any _ n f _ (hv.up (u3.tr u4)) (by omega)).mono ?_
    rintro e w5 ⟨a5, rfl, o5, u5⟩
    replace u5 : Up w4 w5 := u5
    go_wp2_with fail
    refine (mul2 _ _ n n f f _ (o4.sl.up u5) o5.sl hf hf (by omega)).mono ?_
    rintro e w6 ⟨a6, n6, f6, rfl, o6, u6, c6, l6, p6⟩
    replace u6 : Up w3 w6 := u4.tr (u5.tr u6)
    have P6 := hide p6
    clear o4 o5 u4 u5 p6
    go_wp2_with fail
    refine (c_any _ m q _ (hu.up (u3.tr u6)) (by omega)).mono ?_
    rintro e w7 ⟨a7, rfl, o7, u7⟩
    replace u7 : Up w6 w7 := u7
    go_wp2_with fail
    refine (c_any _ m q _ (hu.up (u3.tr (u6.tr u7))) (by omega)).mono ?_
    rintro e w8 ⟨a8, rfl, o8, u8⟩
    replace u8 : Up w7 w8 := u8
    go_wp2_with fail
    refine (mul2 _ _ m m q q _ (o7.sl.up u8) o8.sl hq hq (by omega)).mono ?_
    rintro e w9 ⟨a9, n9, f9, rfl, o9, u9, c9, l9, p9⟩
    replace u9 : Up w6 w9 := u7.tr (u8.tr u9)
    have P9 := hide p9
    clear o7 o8 u7 u8 p9
    go_wp2_with fail
    refine (sub_ge _ _ n6 n9 f6 f9 _ (o6.sl.up u9) o9.sl c6.1 c9.1 (by omega) (by rw [unhide P6, unhide P9]; exact Nat.mul_le_mul (unhide HGE) (unhide HGE))).mono ?_
    rintro e w10 ⟨a10, n10, f10, rfl, o10, u10, c10, l10, p10⟩
    replace u10 : Up w3 w10 := u6.tr (u9.tr u10)
    have P10 := hide p10
    clear o6 o9 u6 u9 p10
    go_wp2_with fail
    refine (c_any _ n f _ (hv.up (u3.tr u10)) (by omega)).mono ?_
    rintro e w11 ⟨a11, rfl, o11, u11⟩
    replace u11 : Up w10 w11 := u11
    go_wp2_with fail
    refine (c_any _ m q _ (hu.up (u3.tr (u10.tr u11))) (by omega)).mono ?_
    rintro e w12 ⟨a12, rfl, o12, u12⟩
    replace u12 : Up w11 w12 := u12
    go_wp2_with fail
    refine (add2 _ _ n m 35184372087808 f q _ (o11.sl.up u12) o12.sl hf hq hn hm (by omega)).mono ?_
    rintro e w13 ⟨a13, n13, f13, rfl, o13, u13, c13, l13, p13⟩
    replace u13 : Up w10 w13 := u11.tr (u12.tr u13)
    have P13 := hide p13
    clear o11 o12 u11 u12 p13
    go_wp2_with fail
    refine (mul2 _ _ n13 n3 f13 f3 _ o13.sl (o3.sl.up (u10.tr u13)) c13.1 c3.1 (by omega)).mono ?_
    rintro e w14 ⟨a14, n14, f14, rfl, o14, u14, c14, l14, p14⟩
    replace u14 : Up w10 w14 := u13.tr u14
    have P14 := hide p14
    clear o13 o3 u13 p14
    go_wp2_with fail
    refine (same_num _ _ n10 n14 f10 f14 _ (o10.sl.up u14) o14.sl c10 c14 (squares (unhide P3) (by rw [← unhide P6, ← unhide P9]; exact unhide P10) (by rw [unhide P14, unhide P13]))).mono ?_
    rintro e w15 ⟨rfl, u15⟩
    replace u15 : Up w w15 := u3.tr (u10.tr (u14.tr u15))
    clear o10 o14 u14 u10 u3
    go_wp2_with fail
    refine (awake_any _).mono ?_
    rintro e w16 ⟨rfl, u16⟩
    replace u16 : Up w w16 := u15.tr u16
    go_wp2_with fail
    go_ret
    exact ⟨rfl, u16⟩

end Go.Proofs.YtpagphcioeefdaaDoor
