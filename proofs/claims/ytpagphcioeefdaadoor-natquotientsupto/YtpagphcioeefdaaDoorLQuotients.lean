/-
  What is proved here: tandemlaw01.NatQuotients answers true, whatever two lists of at most 1048576 limbs it is handed, and turns nothing that was there.
-/
import Derived.Test.YtpagphcioeefdaaDoorUp
import Derived.Test.YtpagphcioeefdaaDoorRDiv
import Derived.Test.YtpagphcioeefdaaDoorDiv
namespace Go.Proofs.YtpagphcioeefdaaDoor
open Go Go.RowKit

set_option maxRecDepth 4000 in
set_option maxHeartbeats 4000000 in
theorem quotients_walk (v u : Value) (n m : Nat) (f q : Nat → Nat) (w : World) (hv : Sl .u32 w v n f) (hu : Sl .u32 w u m q)
    (hf : ∀ i, i < n → f i < 4294967296) (hq : ∀ i, i < m → q i < 4294967296) (hn : n ≤ 1048576) (hm : m ≤ 1048576) :
    Calls Tryd.prog 6 #[v, u] w fun e w' => e = .returned (.bool true) ∧ Below w.heap.size w w' := by
  rcases Nat.eq_zero_or_pos (num 4294967296 q m) with hz | hpos
  · have HZ := hide hz
    clear hz
    go_enter Tryd.func6, Tryd.ntmps6
    go_wp2_with fail
    refine (c_any _ n f _ hv (by omega)).mono ?_
    rintro e w1 ⟨a1, rfl, o1, u1⟩
    replace u1 : Up w w1 := u1
    go_wp2_with fail
    refine (c_any _ m q _ (hu.up u1) (by omega)).mono ?_
    rintro e w2 ⟨a2, rfl, o2, u2⟩
    replace u2 : Up w1 w2 := u2
    go_wp2_with fail
    refine (div_zero _ _ n m f q _ (o1.sl.up u2) o2.sl (unhide HZ)).mono ?_
    rintro e w3 ⟨rfl, u3⟩
    replace u3 : Up w w3 := u1.tr (u2.tr u3)
    clear o1 o2 u1 u2
    go_wp2_with fail
    refine (rDiv_zero _ _ n m f q _ (hv.up u3) (hu.up u3) hf hq (by omega) (by omega) (unhide HZ)).mono ?_
    rintro e w4 ⟨rfl, u4⟩
    replace u4 : Up w w4 := u3.tr u4
    go_wp2_with fail
    refine (same_sl _ _ 0 0 (fun _ => 0) (fun _ => 0) _ (sl_nil _ _) (sl_nil _ _) ⟨rfl, fun i hi => by omega⟩).mono ?_
    rintro e w5 ⟨rfl, u5⟩
    replace u5 : Up w w5 := u4.tr u5
    go_wp2_with fail
    refine (same_sl _ _ 0 0 (fun _ => 0) (fun _ => 0) _ (sl_nil _ _) (sl_nil _ _) ⟨rfl, fun i hi => by omega⟩).mono ?_
    rintro e w6 ⟨rfl, u6⟩
    replace u6 : Up w w6 := u5.tr u6
    go_wp2_with fail
    refine (awake_any _).mono ?_
    rintro e w7 ⟨rfl, u7⟩
    replace u7 : Up w w7 := u6.tr u7
    go_wp2_with fail
    go_ret
    exact ⟨rfl, u7⟩
  · have HPOS := hide hpos
    clear hpos
    go_enter Tryd.func6, Tryd.ntmps6
    go_wp2_with fail
    refine (c_any _ n f _ hv (by omega)).mono ?_
    rintro e w1 ⟨a1, rfl, o1, u1⟩
    replace u1 : Up w w1 := u1
    go_wp2_with fail
    refine (c_any _ m q _ (hu.up u1) (by omega)).mono ?_
    rintro e w2 ⟨a2, rfl, o2, u2⟩
    replace u2 : Up w1 w2 := u2
    go_wp2_with fail
    refine (div_any _ _ n m f q _ (o1.sl.up u2) o2.sl hf hq (by omega) (unhide HPOS)).mono ?_
    rintro e w3 HX
    obtain ⟨nq, nr, fq, fr, vq, vr, rfl, oq, orr, u3, cq, cr, lq, lr, pq, pr⟩ := unhide HX
    replace u3 : Up w w3 := u1.tr (u2.tr u3)
    have PQ := hide pq
    have PR := hide pr
    have sq := oq.sl
    have sr := orr.sl
    clear o1 o2 u1 u2 pq pr HX oq orr
    go_wp2_with fail
    refine (rDiv_any _ _ n m f q _ (hv.up u3) (hu.up u3) hf hq (by omega) (by omega) (unhide HPOS)).mono ?_
    rintro e w4 HX
    obtain ⟨nx, ny, fx, fy, vx, vy, rfl, ox, oy, u4, cx, cy, px, py⟩ := unhide HX
    replace u4 : Up w3 w4 := u4
    have PX := hide px
    have PY := hide py
    have sx := ox.sl
    have sy := oy.sl
    clear px py HX ox oy
    go_wp2_with fail
    refine (same_num _ _ nq nx fq fx _ (sq.up u4) sx cq cx (by rw [unhide PQ, unhide PX])).mono ?_
    rintro e w5 ⟨rfl, u5⟩
    replace u5 : Up w4 w5 := u5
    go_wp2_with fail
    refine (same_num _ _ nr ny fr fy _ (sr.up (u4.tr u5)) (sy.up u5) cr cy (by rw [unhide PR, unhide PY])).mono ?_
    rintro e w6 ⟨rfl, u6⟩
    replace u6 : Up w w6 := u3.tr (u4.tr (u5.tr u6))
    go_wp2_with fail
    refine (awake_any _).mono ?_
    rintro e w7 ⟨rfl, u7⟩
    replace u7 : Up w w7 := u6.tr u7
    go_wp2_with fail
    go_ret
    exact ⟨rfl, u7⟩

end Go.Proofs.YtpagphcioeefdaaDoor
