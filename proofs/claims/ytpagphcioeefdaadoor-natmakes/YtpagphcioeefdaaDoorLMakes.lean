/-
  What is proved here: tandemlaw01.NatMakes answers true, whatever two lists it is handed, and turns nothing that was there.
-/
import Derived.Test.YtpagphcioeefdaaDoorLDoubles
namespace Go.Proofs.YtpagphcioeefdaaDoor
open Go Go.RowKit

set_option maxRecDepth 4000 in
set_option maxHeartbeats 4000000 in
theorem makes_walk (v u : Value) (n m : Nat) (f q : Nat → Nat) (w : World) (hv : Sl .u32 w v n f) (hu : Sl .u32 w u m q)
    (hf : ∀ i, i < n → f i < 4294967296) (hq : ∀ i, i < m → q i < 4294967296) (hn : n ≤ 35184372087808) (hm : m ≤ 35184372087808) :
    Calls Tryd.prog 8 #[v, u] w fun e w' => e = .returned (.bool true) ∧ Below w.heap.size w w' := by
  rcases Nat.eq_zero_or_pos (num 4294967296 q m) with hz | hpos
  · have HZ := hide hz
    clear hz
    go_enter Tryd.func8, Tryd.ntmps8
    go_wp2_with fail
    refine (c_any _ n f _ hv (by omega)).mono ?_
    rintro e w1 ⟨a1, rfl, o1, u1⟩
    replace u1 : Up w w1 := u1
    go_wp2_with fail
    refine (c_any _ m q _ (hu.up u1) (by omega)).mono ?_
    rintro e w2 ⟨a2, rfl, o2, u2⟩
    replace u2 : Up w1 w2 := u2
    go_wp2_with fail
    refine (div_zero _ _ n m f q _ (o1.sl.up u2) o2.sl (unhide HZ)).mono ?_
    rintro e w3 ⟨rfl, u3⟩
    replace u3 : Up w w3 := u1.tr (u2.tr u3)
    clear o1 o2 u1 u2
    go_wp2_with fail
    refine (c_any _ m q _ (hu.up u3) (by omega)).mono ?_
    rintro e w4 ⟨a4, rfl, o4, u4⟩
    replace u4 : Up w w4 := u3.tr u4
    go_wp2_with fail
    refine (bits_any _ m q _ o4.sl hq (by omega)).mono ?_
    rintro e w5 ⟨rfl, hw5⟩
    subst hw5
    rw [unhide HZ, bitLen_zero]
    clear o4
    go_wp2_with fail
    refine (awake_any _).mono ?_
    rintro e w6 ⟨rfl, u6⟩
    replace u6 : Up w w6 := u4.tr u6
    go_wp2_with fail
    go_ret
    exact ⟨rfl, u6⟩
  · have hb1 := bitLen_bound hq
    have hb2 := bitLen_pos hpos
    have HPOS := hide hpos
    clear hpos
    go_enter Tryd.func8, Tryd.ntmps8
    go_wp2_with fail
    refine (c_any _ n f _ hv (by omega)).mono ?_
    rintro e w1 ⟨a1, rfl, o1, u1⟩
    replace u1 : Up w w1 := u1
    go_wp2_with fail
    refine (c_any _ m q _ (hu.up u1) (by omega)).mono ?_
    rintro e w2 ⟨a2, rfl, o2, u2⟩
    replace u2 : Up w1 w2 := u2
    go_wp2_with fail
    refine (div_any _ _ n m f q _ (o1.sl.up u2) o2.sl hf hq (by omega) (unhide HPOS)).mono ?_
    rintro e w3 HX
    obtain ⟨nq, nr, fq, fr, vq, vr, rfl, oq, orr, u3, cq, cr, lq, lr, pq, pr⟩ := unhide HX
    replace u3 : Up w w3 := u1.tr (u2.tr u3)
    have PQ := hide pq
    have PR := hide pr
    clear o1 o2 u1 u2 pq pr HX
    go_wp2_with fail
    refine (c_any _ m q _ (hu.up u3) (by omega)).mono ?_
    rintro e w4 ⟨a4, rfl, o4, u4⟩
    replace u4 : Up w3 w4 := u4
    go_wp2_with fail
    refine (bits_any _ m q _ o4.sl hq (by omega)).mono ?_
    rintro e w5 ⟨rfl, hw5⟩
    subst hw5
    have hbz : ((bitLen (num 4294967296 q m) : Int) == 0) = false := beq_eq_false_iff_ne.2 (by omega)
    generalize bitLen (num 4294967296 q m) = bl at *
    clear o4
    go_wp2_with fail
    refine (c_any _ m q _ (hu.up (u3.tr u4)) (by omega)).mono ?_
    rintro e w6 ⟨a6, rfl, o6, u6⟩
    replace u6 : Up w5 w6 := u6
    go_wp2_with fail
    refine (cmp_any _ _ nr m fr q _ (orr.sl.up (u4.tr u6)) o6.sl cr.1 hq).mono ?_
    rintro e w7 ⟨rfl, u7⟩
    replace u7 : Up w6 w7 := u7
    rw [cmpN_lt (by rw [unhide PR]; exact Nat.mod_lt _ (unhide HPOS))]
    clear o6
    go_wp2_with fail
    refine (c_any _ m q _ (hu.up (u3.tr (u4.tr (u6.tr u7)))) (by omega)).mono ?_
    rintro e w8 ⟨a8, rfl, o8, u8⟩
    replace u8 : Up w7 w8 := u8
    go_wp2_with fail
    refine (mul2 _ _ nq m fq q _ (oq.sl.up (u4.tr (u6.tr (u7.tr u8)))) o8.sl cq.1 hq (by omega)).mono ?_
    rintro e w9 ⟨a9, n9, f9, rfl, o9, u9, c9, l9, p9⟩
    replace u9 : Up w8 w9 := u9
    have P9 := hide p9
    clear p9 o8 oq
    go_wp2_with fail
    refine (add2 _ _ n9 nr 70368744175618 f9 fr _ o9.sl (orr.sl.up (u4.tr (u6.tr (u7.tr (u8.tr u9))))) c9.1 cr.1 (by omega) (by omega) (by omega)).mono ?_
    rintro e w10 ⟨a10, n10, f10, rfl, o10, u10, c10, l10, p10⟩
    replace u10 : Up w9 w10 := u10
    have P10 := hide p10
    have V : Up w w10 := u3.tr (u4.tr (u6.tr (u7.tr (u8.tr (u9.tr u10)))))
    clear p10 o9 orr u3 u4 u6 u7 u8 u9 u10
    go_wp2_with fail
    refine (c_any _ n f _ (hv.up V) (by omega)).mono ?_
    rintro e w11 ⟨a11, rfl, o11, u11⟩
    replace u11 : Up w10 w11 := u11
    go_wp2_with fail
    refine (add2 _ _ n 0 35184372087808 f (fun _ => 0) _ o11.sl (sl_nil _ _) hf (fun i hi => by omega) hn (by omega) (by omega)).mono ?_
    rintro e w12 ⟨a12, n12, f12, rfl, o12, u12, c12, l12, p12⟩
    replace u12 : Up w11 w12 := u12
    have P12 := hide p12
    clear p12 o11
    go_wp2_with fail
    refine (same_num _ _ n10 n12 f10 f12 _ (o10.sl.up (u11.tr u12)) o12.sl c10 c12 (by rw [unhide P10, unhide P9, unhide P12, unhide PQ, unhide PR, num_zero, Nat.mul_comm, Nat.div_add_mod, Nat.add_zero])).mono ?_
    rintro e w13 ⟨rfl, u13⟩
    replace u13 : Up w w13 := V.tr (u11.tr (u12.tr u13))
    clear o10 o12
    go_wp2_with fail
    refine (awake_any _).mono ?_
    rintro e w14 ⟨rfl, u14⟩
    replace u14 : Up w w14 := u13.tr u14
    go_wp2_with fail
    go_ret
    exact ⟨rfl, u14⟩

end Go.Proofs.YtpagphcioeefdaaDoor
