/-
  What is proved here: tandemlaw01.NatBack answers true, whatever list of at most 1048576 limbs and whatever number it is handed, and turns nothing that was there.
-/
import Derived.Test.YtpagphcioeefdaaDoorTabs
import Derived.Test.YtpagphcioeefdaaDoorLDoubles
namespace Go.Proofs.YtpagphcioeefdaaDoor
open Go Go.RowKit

set_option maxRecDepth 4000 in
set_option maxHeartbeats 4000000 in
theorem back_walk (v : Value) (z : Int) (n : Nat) (f : Nat → Nat) (w : World) (hv : Sl .u32 w v n f)
    (hf : ∀ i, i < n → f i < 4294967296) (hn : n ≤ 1048576) (_hz : (Lit.int .i64 z).wf = true) (htab : Tab w) :
    Calls Tryd.prog 10 #[v, .int .i64 z] w fun e w' => e = .returned (.bool true) ∧ Below w.heap.size w w' := by
  go_enter Tryd.func10, Tryd.ntmps10
  go_wp2_with fail
  refine (c_any _ n f _ hv (by omega)).mono ?_
  rintro e w1 ⟨a1, rfl, o1, u1⟩
  replace u1 : Up w w1 := u1
  go_wp2_with fail
  refine (text_tab _ n f _ o1.sl hf (by omega) (htab.up u1)).mono ?_
  rintro e w2 ⟨s, rfl, u2, hsz, hsays⟩
  replace u2 : Up w w2 := u1.tr u2
  have HD := hide hsays.digs
  clear o1 u1 hsays
  go_wp2_with fail
  go_loopw [5, 6] (fun t5 t6 wr => ∃ (i : Nat) (s' : ByteArray), i ≤ 9 ∧ t6 = .int .i64 i ∧ t5 = .string s' ∧ wr = w2 ∧ s'.size ≤ s.size + i ∧ Hid (Digs s' (num 4294967296 f n))) (fun _ t6 _ => 9 - (intOf t6).toNat)
  case atStart => exact ⟨0, s, by omega, rfl, rfl, rfl, by omega, HD⟩
  case round =>
    obtain ⟨i, s', hi, rfl, rfl, rfl, hs', HD'⟩ := hrel
    clear HD
    go_wp2_with fail
    refine (place9 z _).mono ?_
    rintro e wx ⟨k, rfl, rfl, hk⟩
    by_cases hik : i < k
    · obtain ⟨HD2, hs2⟩ := (unhide HD').zero
      have HD3 := hide HD2
      have HS2 := hide hs2
      clear HD2 hs2 HD'
      go_wp2_with fail
      go_roundw
      case rel => exact ⟨i + 1, _, by omega, by go_num, rfl, trivial, by rw [unhide HS2]; omega, HD3⟩
      case measure => simp [intOf]; omega
    · obtain ⟨d, hd1, hd2, hd3⟩ := unhide HD'
      have HP := hide (parse_yes s' d wx (by omega) (by omega) hd2)
      have HD3 := hide hd3
      clear hd2 hd3
      go_wp2_with fail
      refine (unhide HP).mono ?_
      rintro e w3 ⟨v3, n3, f3, rfl, o3, u3, c3, l3, p3⟩
      replace u3 : Up wx w3 := u3
      have P3 := hide (p3.trans (unhide HD3))
      clear p3 HP HD3
      have U3 : Up w w3 := u2.tr u3
      go_wp2_with fail
      refine (c_any _ n f _ (hv.up U3) (by omega)).mono ?_
      rintro e w4 ⟨a4, rfl, o4, u4⟩
      replace u4 : Up w3 w4 := u4
      go_wp2_with fail
      refine (bits_any _ n f _ o4.sl hf (by omega)).mono ?_
      rintro e w5 ⟨rfl, hw5⟩
      subst hw5
      rw [← unhide P3]
      have U5 : Up w w5 := U3.tr u4
      have o5 := o3.up u4
      clear o4 o3
      rcases Nat.eq_zero_or_pos n3 with h0 | h0
      · subst h0
        rw [num_zero, bitLen_zero]
        have s5 := o5.sl
        obtain ⟨ao, cap, rfl, -⟩ := id s5
        go_wp2_with fail
        refine (c_any _ n f _ (hv.up U5) (by omega)).mono ?_
        rintro e w6 ⟨a6, rfl, o6, u6⟩
        replace u6 : Up w5 w6 := u6
        go_wp2_with fail
        refine (add2 _ _ n 0 1048576 f (fun _ => 0) _ o6.sl (sl_nil _ _) hf (fun i hi => by omega) hn (by omega) (by omega)).mono ?_
        rintro e w7 ⟨a7, n7, f7, rfl, o7, u7, c7, l7, p7⟩
        replace u7 : Up w6 w7 := u7
        have P7 := hide p7
        clear p7 o6
        go_wp2_with fail
        refine (same_num _ _ 0 n7 f3 f7 _ (s5.up (u6.tr u7)) o7.sl c3 c7 (by rw [unhide P7, unhide P3, num_zero, Nat.add_zero])).mono ?_
        rintro e w8 ⟨rfl, u8⟩
        replace u8 : Up w w8 := U5.tr (u6.tr (u7.tr u8))
        clear o7 o5 s5
        go_wp2_with fail
        go_ret
        exact ⟨rfl, u8⟩
      · obtain ⟨p, rfl⟩ : ∃ p, n3 = p + 1 := ⟨n3 - 1, by omega⟩
        have ht : f3 p ≠ 0 := by rcases c3.2 with h | h; omega; rwa [Nat.add_sub_cancel] at h
        have hbn := bitLen_num c3.1 h0 (by rw [Nat.add_sub_cancel]; exact ht)
        rw [Nat.add_sub_cancel] at hbn
        have hb1 := bitLen_pos (Nat.pos_of_ne_zero ht)
        have hb2 := bitLen_bound c3.1
        rcases o5 with ⟨_, h⟩ | ⟨g, cap, rfl, hg, hcap, hr5⟩
        · omega
        have s5 := hr5.sl hcap
        have hcell := hr5.cell (i := p) (by omega)
        have hlt5 := hr5.lt
        clear hr5
        have hxb : ((f3 p : Int) == 0) = false := beq_eq_false_iff_ne.2 (by omega)
        have hxn : ((f3 p : Int) != 0) = true := bne_iff_ne.2 (by omega)
        have P3' := hide (unhide P3)
        clear P3
        generalize hbl : bitLen (num 4294967296 f3 (p + 1)) = bl at *
        have hq1 : ((bl : Int) == 0) = false := beq_eq_false_iff_ne.2 (by omega)
        have hq2 : (((p + 1 : Nat) : Int) == 0) = false := beq_eq_false_iff_ne.2 (by omega)
        have hq3 : ((p : Int) + 1 == 0) = false := beq_eq_false_iff_ne.2 (by omega)
        have hq4 : (bl : Int) ≤ 32 * ((p : Int) + 1) := by omega
        have hq5 : 32 * (p : Int) < (bl : Int) := by omega
        clear hbn hb1 hb2 hbl
        go_wp2_with fail
        refine (c_any _ n f _ (hv.up U5) (by omega)).mono ?_
        rintro e w6 ⟨a6, rfl, o6, u6⟩
        replace u6 : Up w5 w6 := u6
        go_wp2_with fail
        refine (add2 _ _ n 0 1048576 f (fun _ => 0) _ o6.sl (sl_nil _ _) hf (fun i hi => by omega) hn (by omega) (by omega)).mono ?_
        rintro e w7 ⟨a7, n7, f7, rfl, o7, u7, c7, l7, p7⟩
        replace u7 : Up w6 w7 := u7
        have P7 := hide p7
        clear p7 o6
        go_wp2_with fail
        refine (same_num _ _ (p + 1) n7 f3 f7 _ (s5.up (u6.tr u7)) o7.sl c3 c7 (by rw [unhide P7, unhide P3', num_zero, Nat.add_zero])).mono ?_
        rintro e w8 ⟨rfl, u8⟩
        replace u8 : Up w5 w8 := u6.tr (u7.tr u8)
        have hc8 := (Below.cell u8 (p := ⟨g, p, none⟩) hlt5).trans hcell
        clear o7 s5 hcell
        have U8 : Up w w8 := U5.tr u8
        generalize f3 p = xp at *
        go_wp2_with fail
        refine (awake_any _).mono ?_
        rintro e w9 ⟨rfl, u9⟩
        replace u9 : Up w w9 := U8.tr u9
        go_wp2_with fail
        go_ret
        exact ⟨rfl, u9⟩

end Go.Proofs.YtpagphcioeefdaaDoor
