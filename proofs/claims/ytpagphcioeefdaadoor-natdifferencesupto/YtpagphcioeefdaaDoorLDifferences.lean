/-
  What is proved here: tandemlaw01.NatDifferences answers true, whatever two lists of at most 1048576 limbs it is handed, and turns nothing that was there.
-/
import Derived.Test.YtpagphcioeefdaaDoorUp
import Derived.Test.YtpagphcioeefdaaDoorRef5
namespace Go.Proofs.YtpagphcioeefdaaDoor
open Go Go.RowKit

set_option maxRecDepth 4000 in
set_option maxHeartbeats 4000000 in
theorem differences_walk (v u : Value) (n m : Nat) (f q : Nat → Nat) (w : World) (hv : Sl .u32 w v n f) (hu : Sl .u32 w u m q)
    (hf : ∀ i, i < n → f i < 4294967296) (hq : ∀ i, i < m → q i < 4294967296) (hn : n ≤ 1048576) (hm : m ≤ 1048576) :
    Calls Tryd.prog 5 #[v, u] w fun e w' => e = .returned (.bool true) ∧ Below w.heap.size w w' := by
  rcases Nat.lt_or_ge (num 4294967296 f n) (num 4294967296 q m) with hlt | hge
  · have HLT := hide hlt
    clear hlt
    go_enter Tryd.func5, Tryd.ntmps5
    go_wp2_with fail
    refine (c_any _ n f _ hv (by omega)).mono ?_
    rintro e w1 ⟨a1, rfl, o1, u1⟩
    replace u1 : Up w w1 := u1
    have U : Up w w1 := u1
    go_wp2_with fail
    refine (c_any _ m q _ (hu.up U) (by omega)).mono ?_
    rintro e w2 ⟨a2, rfl, o2, u2⟩
    replace u2 : Up w1 w2 := u2
    replace U : Up w w2 := U.tr u2
    go_wp2_with fail
    refine (sub_lt _ _ n m f q _ (o1.sl.up u2) o2.sl hf hq (unhide HLT)).mono ?_
    rintro e w3 ⟨rfl, u3⟩
    replace u3 : Up w2 w3 := u3
    replace U : Up w w3 := U.tr u3
    clear o1
    clear o2
    go_wp2_with fail
    refine (rSub_lt _ _ n m f q _ (hv.up U) (hu.up U) hf hq (by omega) (by omega) (unhide HLT)).mono ?_
    rintro e w4 ⟨rfl, u4⟩
    replace u4 : Up w3 w4 := u4
    replace U : Up w w4 := U.tr u4
    go_wp2_with fail
    refine (same_sl _ _ 0 0 (fun _ => 0) (fun _ => 0) _ (sl_nil _ _) (sl_nil _ _) ⟨rfl, fun i hi => by omega⟩).mono ?_
    rintro e w5 ⟨rfl, u5⟩
    replace u5 : Up w4 w5 := u5
    replace U : Up w w5 := U.tr u5
    go_wp2_with fail
    refine (c_any _ n f _ (hv.up U) (by omega)).mono ?_
    rintro e w6 ⟨a6, rfl, o6, u6⟩
    replace u6 : Up w5 w6 := u6
    replace U : Up w w6 := U.tr u6
    go_wp2_with fail
    refine (c_any _ m q _ (hu.up U) (by omega)).mono ?_
    rintro e w7 ⟨a7, rfl, o7, u7⟩
    replace u7 : Up w6 w7 := u7
    replace U : Up w w7 := U.tr u7
    go_wp2_with fail
    refine (cmp_any _ _ n m f q _ (o6.sl.up u7) o7.sl hf hq).mono ?_
    rintro e w8 ⟨rfl, u8⟩
    replace u8 : Up w7 w8 := u8
    replace U : Up w w8 := U.tr u8
    clear o6
    clear o7
    go_wp2_with fail
    refine (rCmp_any _ _ n m f q _ (hv.up U) (hu.up U) hf hq (by omega) (by omega)).mono ?_
    rintro e w9 ⟨rfl, u9⟩
    replace u9 : Up w8 w9 := u9
    replace U : Up w w9 := U.tr u9
    have hcc : ((cmpN (num 4294967296 f n) (num 4294967296 q m)) == (cmpN (num 4294967296 f n) (num 4294967296 q m))) = true := by simp
    generalize cmpN (num 4294967296 f n) (num 4294967296 q m) = cc at *
    go_wp2_with fail
    refine (awake_any _).mono ?_
    rintro e w10 ⟨rfl, u10⟩
    replace u10 : Up w9 w10 := u10
    replace U : Up w w10 := U.tr u10
    go_wp2_with fail
    go_ret
    exact ⟨rfl, U⟩
  · have HGE := hide hge
    clear hge
    go_enter Tryd.func5, Tryd.ntmps5
    go_wp2_with fail
    refine (c_any _ n f _ hv (by omega)).mono ?_
    rintro e w1 ⟨a1, rfl, o1, u1⟩
    replace u1 : Up w w1 := u1
    have U : Up w w1 := u1
    go_wp2_with fail
    refine (c_any _ m q _ (hu.up U) (by omega)).mono ?_
    rintro e w2 ⟨a2, rfl, o2, u2⟩
    replace u2 : Up w1 w2 := u2
    replace U : Up w w2 := U.tr u2
    go_wp2_with fail
    refine (sub_ge _ _ n m f q _ (o1.sl.up u2) o2.sl hf hq (by omega) (unhide HGE)).mono ?_
    rintro e w3 ⟨a3, n3, f3, rfl, o3, u3, c3, l3, p3⟩
    replace u3 : Up w2 w3 := u3
    replace U : Up w w3 := U.tr u3
    have P3 := hide p3
    clear p3
    clear o1
    clear o2
    go_wp2_with fail
    refine (rSub_ge _ _ n m f q _ (hv.up U) (hu.up U) hf hq (by omega) (by omega) (unhide HGE)).mono ?_
    rintro e w4 ⟨n4, f4, a4, rfl, o4, u4, c4, p4⟩
    replace u4 : Up w3 w4 := u4
    replace U : Up w w4 := U.tr u4
    have P4 := hide p4
    clear p4
    go_wp2_with fail
    refine (same_num _ _ n3 n4 f3 f4 _ (o3.sl.up u4) o4.sl c3 c4 (by have e1 := unhide P3; have e2 := unhide P4; omega)).mono ?_
    rintro e w5 ⟨rfl, u5⟩
    replace u5 : Up w4 w5 := u5
    replace U : Up w w5 := U.tr u5
    clear o3
    clear o4
    go_wp2_with fail
    refine (c_any _ n f _ (hv.up U) (by omega)).mono ?_
    rintro e w6 ⟨a6, rfl, o6, u6⟩
    replace u6 : Up w5 w6 := u6
    replace U : Up w w6 := U.tr u6
    go_wp2_with fail
    refine (c_any _ m q _ (hu.up U) (by omega)).mono ?_
    rintro e w7 ⟨a7, rfl, o7, u7⟩
    replace u7 : Up w6 w7 := u7
    replace U : Up w w7 := U.tr u7
    go_wp2_with fail
    refine (cmp_any _ _ n m f q _ (o6.sl.up u7) o7.sl hf hq).mono ?_
    rintro e w8 ⟨rfl, u8⟩
    replace u8 : Up w7 w8 := u8
    replace U : Up w w8 := U.tr u8
    clear o6
    clear o7
    go_wp2_with fail
    refine (rCmp_any _ _ n m f q _ (hv.up U) (hu.up U) hf hq (by omega) (by omega)).mono ?_
    rintro e w9 ⟨rfl, u9⟩
    replace u9 : Up w8 w9 := u9
    replace U : Up w w9 := U.tr u9
    have hcc : ((cmpN (num 4294967296 f n) (num 4294967296 q m)) == (cmpN (num 4294967296 f n) (num 4294967296 q m))) = true := by simp
    generalize cmpN (num 4294967296 f n) (num 4294967296 q m) = cc at *
    go_wp2_with fail
    refine (awake_any _).mono ?_
    rintro e w10 ⟨rfl, u10⟩
    replace u10 : Up w9 w10 := u10
    replace U : Up w w10 := U.tr u10
    go_wp2_with fail
    go_ret
    exact ⟨rfl, U⟩

end Go.Proofs.YtpagphcioeefdaaDoor
