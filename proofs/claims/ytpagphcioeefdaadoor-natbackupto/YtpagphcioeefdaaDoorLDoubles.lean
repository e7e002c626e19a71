/-
  What is proved here: tandemlaw01.NatDoubles answers true, whatever list it is handed, and turns nothing that was there.
-/
import Derived.Test.YtpagphcioeefdaaDoorUp
import Derived.Test.YtpagphcioeefdaaDoorBits
namespace Go.Proofs.YtpagphcioeefdaaDoor
open Go Go.RowKit

theorem can_zero {f : Nat → Nat} {n : Nat} (hc : Can 4294967296 f n) (h : num 4294967296 f n = 0) : n = 0 := by
  by_cases h0 : n = 0
  · exact h0
  · exfalso
    have h1 := num_ge (B := 4294967296) (f := f) (n := n) (by omega) (by rcases hc.2 with h | h; omega; exact h)
    have : 0 < 4294967296 ^ (n - 1) := Nat.pos_of_ne_zero (by simp)
    omega
theorem bitLen_bound {f : Nat → Nat} {n : Nat} (hf : ∀ i, i < n → f i < 4294967296) : bitLen (num 4294967296 f n) ≤ 32 * n := by
  have h1 := num_lt hf
  rw [show (4294967296 : Nat) ^ n = 2 ^ (32 * n) from by rw [Nat.pow_mul]] at h1
  apply Nat.le_of_not_lt
  intro hlt
  by_cases h0 : num 4294967296 f n = 0
  · rw [h0, bitLen_zero] at hlt; omega
  · have h2 := (bitLen_spec (num 4294967296 f n)).2 h0
    have h3 : 2 ^ (32 * n) ≤ 2 ^ (bitLen (num 4294967296 f n) - 1) := Nat.pow_le_pow_right (by decide) (by omega)
    omega
theorem bitLen_pos {x : Nat} (h : 0 < x) : 1 ≤ bitLen x := by unfold bitLen; rw [if_neg (by omega)]; omega

set_option maxRecDepth 4000 in
set_option maxHeartbeats 4000000 in
theorem doubles_walk (v : Value) (n : Nat) (f : Nat → Nat) (w : World) (hv : Sl .u32 w v n f) (hf : ∀ i, i < n → f i < 4294967296) (hn : n ≤ 35184372087808) :
    Calls Tryd.prog 12 #[v] w fun e w' => e = .returned (.bool true) ∧ Below w.heap.size w w' := by
  rcases Nat.eq_zero_or_pos (num 4294967296 f n) with hz | hpos
  · have HZ := hide hz
    clear hz
    go_enter Tryd.func12, Tryd.ntmps12
    go_wp2_with fail
    refine (c_any _ n f _ hv (by omega)).mono ?_
    rintro e w1 ⟨a1, rfl, o1, u1⟩
    replace u1 : Up w w1 := u1
    go_wp2_with fail
    refine (c_any _ n f _ (hv.up u1) (by omega)).mono ?_
    rintro e w2 ⟨a2, rfl, o2, u2⟩
    replace u2 : Up w1 w2 := u2
    go_wp2_with fail
    refine (add2 _ _ n n 35184372087808 f f _ (o1.sl.up u2) o2.sl hf hf hn hn (by omega)).mono ?_
    rintro e w3 ⟨a3, n3, f3, rfl, o3, u3, c3, l3, p3⟩
    replace u3 : Up w w3 := u1.tr (u2.tr u3)
    have P3 := hide p3
    clear p3 o1 o2 u1 u2
    go_wp2_with fail
    have ua : Up w3 (w3.alloc (.cells #[.int .u32 2] 41)) := below_alloc _ _
    refine (div_any _ _ n3 1 f3 (fun _ => 2) _ (o3.sl.up ua) (lit1 w3 41 2) c3.1 (fun _ _ => (by decide : 2 < 4294967296)) (by omega) (by rw [num_lit1]; decide)).mono ?_
    rintro e w4 HX
    obtain ⟨nq, nr, fq, fr, vq, vr, rfl, oq, orr, u4, cq, cr, lq, lr, pq, pr⟩ := unhide HX
    replace u4 : Up w3 w4 := ua.tr u4
    rw [num_lit1, unhide P3] at pq pr
    have PQ := hide (show num 4294967296 fq nq = num 4294967296 f n by rw [pq]; omega)
    obtain rfl : nr = 0 := can_zero cr (by rw [pr]; omega)
    obtain ⟨ar, cpr, er, -⟩ := id orr.sl
    subst er
    clear pq pr HX orr ua
    go_wp2_with fail
    refine (c_any _ n f _ (hv.up (u3.tr u4)) (by omega)).mono ?_
    rintro e w5 ⟨a5, rfl, o5, u5⟩
    replace u5 : Up w4 w5 := u5
    go_wp2_with fail
    refine (bits_any _ n f _ o5.sl hf (by omega)).mono ?_
    rintro e w6 ⟨rfl, hw6⟩
    subst hw6
    rw [unhide HZ, bitLen_zero]
    clear o5
    go_wp2_with fail
    refine (c_any _ n f _ (hv.up (u3.tr (u4.tr u5))) (by omega)).mono ?_
    rintro e w7 ⟨a7, rfl, o7, u7⟩
    replace u7 : Up w6 w7 := u7
    go_wp2_with fail
    have ua : Up w7 (w7.alloc (.cells #[.int .u32 2] 41)) := below_alloc _ _
    refine (mul2 _ _ n 1 f (fun _ => 2) _ (o7.sl.up ua) (lit1 w7 41 2) hf (fun _ _ => (by decide : 2 < 4294967296)) (by omega)).mono ?_
    rintro e w8 ⟨a8, n8, f8, rfl, o8, u8, c8, l8, p8⟩
    replace u8 : Up w7 w8 := ua.tr u8
    rw [num_lit1] at p8
    have P8 := hide p8
    clear p8 ua o7
    go_wp2_with fail
    refine (same_num _ _ n3 n8 f3 f8 _ (o3.sl.up (u4.tr (u5.tr (u7.tr u8)))) o8.sl c3 c8 (by rw [unhide P3, unhide P8]; omega)).mono ?_
    rintro e w9 ⟨rfl, u9⟩
    replace u9 : Up w8 w9 := u9
    clear o8
    go_wp2_with fail
    refine (bits_any _ n3 f3 _ (o3.sl.up (u4.tr (u5.tr (u7.tr (u8.tr u9))))) c3.1 (by omega)).mono ?_
    rintro e w10 ⟨rfl, hw10⟩
    subst hw10
    rw [unhide P3, unhide HZ, bitLen_zero]
    have ub : Up w3 w10 := u4.tr (u5.tr (u7.tr (u8.tr u9)))
    have uq : Up w4 w10 := u5.tr (u7.tr (u8.tr u9))
    clear o3
    go_wp2_with fail
    refine (c_any _ n f _ (hv.up (u3.tr ub)) (by omega)).mono ?_
    rintro e w11 ⟨a11, rfl, o11, u11⟩
    replace u11 : Up w10 w11 := u11
    go_wp2_with fail
    refine (add2 _ _ n 0 35184372087808 f (fun _ => 0) _ o11.sl (sl_nil _ _) hf (fun i hi => by omega) hn (by omega) (by omega)).mono ?_
    rintro e w12 ⟨a12, n12, f12, rfl, o12, u12, c12, l12, p12⟩
    replace u12 : Up w11 w12 := u12
    have P12 := hide p12
    clear p12 o11
    go_wp2_with fail
    refine (same_num _ _ nq n12 fq f12 _ (oq.sl.up (uq.tr (u11.tr u12))) o12.sl cq c12 (by rw [unhide PQ, unhide P12, num_zero]; rfl)).mono ?_
    rintro e w13 ⟨rfl, u13⟩
    replace u13 : Up w w13 := u3.tr (ub.tr (u11.tr (u12.tr u13)))
    clear oq o12
    go_wp2_with fail
    refine (awake_any _).mono ?_
    rintro e w14 ⟨rfl, u14⟩
    replace u14 : Up w w14 := u13.tr u14
    go_wp2_with fail
    go_ret
    exact ⟨rfl, u14⟩
  · have hb1 := bitLen_bound hf
    have hb2 := bitLen_pos hpos
    have HD := hide (bitLen_double hpos)
    clear hpos
    go_enter Tryd.func12, Tryd.ntmps12
    go_wp2_with fail
    refine (c_any _ n f _ hv (by omega)).mono ?_
    rintro e w1 ⟨a1, rfl, o1, u1⟩
    replace u1 : Up w w1 := u1
    go_wp2_with fail
    refine (c_any _ n f _ (hv.up u1) (by omega)).mono ?_
    rintro e w2 ⟨a2, rfl, o2, u2⟩
    replace u2 : Up w1 w2 := u2
    go_wp2_with fail
    refine (add2 _ _ n n 35184372087808 f f _ (o1.sl.up u2) o2.sl hf hf hn hn (by omega)).mono ?_
    rintro e w3 ⟨a3, n3, f3, rfl, o3, u3, c3, l3, p3⟩
    replace u3 : Up w w3 := u1.tr (u2.tr u3)
    have P3 := hide p3
    clear p3 o1 o2 u1 u2
    go_wp2_with fail
    have ua : Up w3 (w3.alloc (.cells #[.int .u32 2] 41)) := below_alloc _ _
    refine (div_any _ _ n3 1 f3 (fun _ => 2) _ (o3.sl.up ua) (lit1 w3 41 2) c3.1 (fun _ _ => (by decide : 2 < 4294967296)) (by omega) (by rw [num_lit1]; decide)).mono ?_
    rintro e w4 HX
    obtain ⟨nq, nr, fq, fr, vq, vr, rfl, oq, orr, u4, cq, cr, lq, lr, pq, pr⟩ := unhide HX
    replace u4 : Up w3 w4 := ua.tr u4
    rw [num_lit1, unhide P3] at pq pr
    have PQ := hide (show num 4294967296 fq nq = num 4294967296 f n by rw [pq]; omega)
    obtain rfl : nr = 0 := can_zero cr (by rw [pr]; omega)
    obtain ⟨ar, cpr, er, -⟩ := id orr.sl
    subst er
    clear pq pr HX orr ua
    go_wp2_with fail
    refine (c_any _ n f _ (hv.up (u3.tr u4)) (by omega)).mono ?_
    rintro e w5 ⟨a5, rfl, o5, u5⟩
    replace u5 : Up w4 w5 := u5
    go_wp2_with fail
    refine (bits_any _ n f _ o5.sl hf (by omega)).mono ?_
    rintro e w6 ⟨rfl, hw6⟩
    subst hw6
    clear o5
    generalize bitLen (num 4294967296 f n) = bl at *
    go_wp2_with fail
    refine (c_any _ n f _ (hv.up (u3.tr (u4.tr u5))) (by omega)).mono ?_
    rintro e w7 ⟨a7, rfl, o7, u7⟩
    replace u7 : Up w6 w7 := u7
    go_wp2_with fail
    have ua : Up w7 (w7.alloc (.cells #[.int .u32 2] 41)) := below_alloc _ _
    refine (mul2 _ _ n 1 f (fun _ => 2) _ (o7.sl.up ua) (lit1 w7 41 2) hf (fun _ _ => (by decide : 2 < 4294967296)) (by omega)).mono ?_
    rintro e w8 ⟨a8, n8, f8, rfl, o8, u8, c8, l8, p8⟩
    replace u8 : Up w7 w8 := ua.tr u8
    rw [num_lit1] at p8
    have P8 := hide p8
    clear p8 ua o7
    go_wp2_with fail
    refine (same_num _ _ n3 n8 f3 f8 _ (o3.sl.up (u4.tr (u5.tr (u7.tr u8)))) o8.sl c3 c8 (by rw [unhide P3, unhide P8]; omega)).mono ?_
    rintro e w9 ⟨rfl, u9⟩
    replace u9 : Up w8 w9 := u9
    clear o8
    go_wp2_with fail
    refine (bits_any _ n3 f3 _ (o3.sl.up (u4.tr (u5.tr (u7.tr (u8.tr u9))))) c3.1 (by omega)).mono ?_
    rintro e w10 ⟨rfl, hw10⟩
    subst hw10
    rw [unhide P3, unhide HD]
    have ub : Up w3 w10 := u4.tr (u5.tr (u7.tr (u8.tr u9)))
    have uq : Up w4 w10 := u5.tr (u7.tr (u8.tr u9))
    clear o3
    go_wp2_with fail
    refine (c_any _ n f _ (hv.up (u3.tr ub)) (by omega)).mono ?_
    rintro e w11 ⟨a11, rfl, o11, u11⟩
    replace u11 : Up w10 w11 := u11
    go_wp2_with fail
    refine (add2 _ _ n 0 35184372087808 f (fun _ => 0) _ o11.sl (sl_nil _ _) hf (fun i hi => by omega) hn (by omega) (by omega)).mono ?_
    rintro e w12 ⟨a12, n12, f12, rfl, o12, u12, c12, l12, p12⟩
    replace u12 : Up w11 w12 := u12
    have P12 := hide p12
    clear p12 o11
    go_wp2_with fail
    refine (same_num _ _ nq n12 fq f12 _ (oq.sl.up (uq.tr (u11.tr u12))) o12.sl cq c12 (by rw [unhide PQ, unhide P12, num_zero]; rfl)).mono ?_
    rintro e w13 ⟨rfl, u13⟩
    replace u13 : Up w w13 := u3.tr (ub.tr (u11.tr (u12.tr u13)))
    clear oq o12
    go_wp2_with fail
    refine (awake_any _).mono ?_
    rintro e w14 ⟨rfl, u14⟩
    replace u14 : Up w w14 := u13.tr u14
    go_wp2_with fail
    go_ret
    exact ⟨rfl, u14⟩

end Go.Proofs.YtpagphcioeefdaaDoor
