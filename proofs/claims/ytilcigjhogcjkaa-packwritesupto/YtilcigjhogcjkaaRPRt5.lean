/-
  What is proved here: tandemref10's right of numbers: what the document's Canon keeps as it is.
-/
import Derived.Test.YtilcigjhogcjkaaRPRt1
import Derived.Test.YtilcigjhogcjkaaPCA
import Derived.Test.YtilcigjhogcjkaaRPNum
namespace Go.Proofs.Ytilcigjhogcjkaa
open Go Go.RowKit

theorem len_flat_num : ∀ L : List Nat, L.length ≤ (L.flatMap numB).length
  | [] => Nat.le_refl _
  | x :: L => by
    have := len_flat_num L
    have := numB_pos x
    simp only [List.flatMap_cons, List.length_append, List.length_cons]
    omega
theorem Up.frw1 {w w' : World} (h : Up w w') : Fr (fun _ => False) w w' := ⟨h.os, h.tape, h.output, h.size, fun k hk _ => h.block k hk⟩
theorem LAt.upL {w w' : World} {cb c : Nat} (h : LAt w cb c) (u : Up w w') : LAt w' cb c := (u.block cb h.lt).trans h
theorem sgn_both {b b' : Bool} {x y : Nat} (h : sgn b x = sgn b' y) : x = y ∧ (0 < x → b = b') := by
  unfold sgn at h
  cases b <;> cases b' <;> simp at h <;> refine ⟨by omega, fun _ => ?_⟩ <;> first | rfl | omega
/-- What Canon keeps is canonical. -/
theorem canon_keeps {b b' : Bool} {L : List Nat} {f' : Nat → Nat} {m : Nat} (hlim : ∀ i, i < L.length → L.getD i 0 < 4294967296) (hc : CanZ b' f' m) (hm : m ≤ L.length) (hs : sgn b' (num 4294967296 f' m) = sgn b (num 4294967296 (fun i => L.getD i 0) L.length)) :
    (canB b L = true → m = L.length ∧ b' = b) ∧ (canB b L = false → L.length ≠ 0 → m < L.length) ∧ (L.length = 0 → m = 0 ∧ b' = false) := by
  have h0 : L.length = 0 → m = 0 ∧ b' = false := fun e => by
    have : m = 0 := by omega
    refine ⟨this, ?_⟩
    cases b' with
    | false => rfl
    | true => exact absurd this (hc.2 rfl)
  refine ⟨fun hb => ?_, fun hb h => ?_, h0⟩
  · unfold canB at hb
    by_cases e : L.length = 0
    · rw [if_pos e] at hb
      have := h0 e
      exact ⟨by omega, by rw [this.2]; simpa using hb.symm⟩
    · rw [if_neg e] at hb
      have hcL : Can 4294967296 (fun i => L.getD i 0) L.length := ⟨hlim, .inr (by simpa using hb)⟩
      have hnum := (sgn_both hs).1
      have hml := (can_uniq (by decide) hc.1 hcL hnum).1
      refine ⟨hml, ?_⟩
      have hpos : 0 < num 4294967296 f' m := by
        have h2 := num_ge (B := 4294967296) (f := f') (n := m) (by omega) (by rcases hc.1.2 with h | h; omega; exact h)
        have : 0 < 4294967296 ^ (m - 1) := Nat.pow_pos (by decide)
        omega
      exact (sgn_both hs).2 hpos
  · unfold canB at hb
    rw [if_neg h] at hb
    have hl : L.getD (L.length - 1) 0 = 0 := by simpa using hb
    have hnum := (sgn_both hs).1
    have hn1 : num 4294967296 (fun i => L.getD i 0) L.length = num 4294967296 (fun i => L.getD i 0) (L.length - 1) := by
      obtain ⟨q, hq⟩ : ∃ q, L.length = q + 1 := ⟨L.length - 1, by omega⟩
      rw [hq] at hl ⊢
      simp only [Nat.add_sub_cancel] at hl ⊢
      rw [num_succ, hl, Nat.zero_mul, Nat.add_zero]
    rw [hn1] at hnum
    have := can_le (by decide) hc.1 (fun i hi => hlim i (by omega)) hnum
    omega
/-- Canon, by what it keeps. -/
theorem canonR_any (b : Bool) (L : List Nat) (w0 W : World) (a1 : Option Addr) (p1 : Nat) (hM : Sl .u32 w0 (.slice a1 L.length p1) L.length (fun i => L.getD i 0)) (hlim : ∀ i, i < L.length → L.getD i 0 < 4294967296) (hl : L.length ≤ 900000000) (hU : Up w0 W) :
    Calls Try.prog 59 #[.agg #[.bool b, .slice a1 L.length p1]] W fun e w' => ∃ b' ao m cap, e = .returned (.agg #[.bool b', .slice ao m cap]) ∧ ((canB b L = true → m = L.length ∧ b' = b) ∧ (canB b L = false → L.length ≠ 0 → m < L.length) ∧ (L.length = 0 → m = 0 ∧ b' = false)) ∧ Up W w' := by
  refine (r2canon_any _ b L.length (fun i => L.getD i 0) W ⟨_, rfl, hM.up hU⟩ hlim (by omega)).mono ?_
  rintro e w' ⟨a, b', m, f', rfl, ⟨v, rfl, o⟩, u, c, l, s⟩
  obtain ⟨ao, cap, rfl, -⟩ := o.sl
  exact ⟨b', ao, m, cap, rfl, canon_keeps hlim c l s, u⟩

set_option maxRecDepth 100000 in
set_option maxHeartbeats 8000000 in
theorem right_1n (w0 w : World) (cb c k : Nat) (n : Int) (b : Bool) (L : List Nat) (t : ByteArray) (a1 a2 a3 : Option Addr) (l2 l3 p1 p2 p3 : Nat) (hL : LAt w cb (c + 1)) (hc : c < 20000) (hk : k ≤ 100) (hn : half n = true) (hM : Sl .u32 w0 (.slice a1 L.length p1) L.length (fun i => L.getD i 0)) (hlim : ∀ i, i < L.length → L.getD i 0 < 4294967296) (hU : Up w0 w) (hcb : w0.heap.size ≤ cb) (hLl : L.length ≤ 900000000) (hcan : canB b L = false) (hl0 : L.length ≠ 0) :
    Calls Try.prog 45 #[.pointer (some ⟨cb, 0, none⟩), .agg #[.int .i64 1, .int .i64 n, .bool b, .slice a1 L.length p1, .string t, .slice a2 l2 p2, .slice a3 l3 p3], .int .i64 (k : Int)] w fun e w' => e = .returned (.bool (canB b L && (decide (n = 0) && (decide (t.size = 0) && (decide (l2 = 0) && decide (l3 = 0)))))) ∧ LAt w' cb c ∧ Fr (fun k => k = cb) w w' := by
  have hA := hL.alloc (.cells #[.int .i64 1, .int .i64 n, .bool b, .slice a1 L.length p1, .string t, .slice a2 l2 p2, .slice a3 l3 p3] 64)
  have x1 := hA.cell
  have x2 := hA.free
  have x3 := (hA.set c).cell
  have hb := rt_box c 1 n b t (.slice a1 L.length p1) (.slice a2 l2 p2) (.slice a3 l3 p3) hL
  have y0 := hb.k0
  have y1 := hb.k1
  have y2 := hb.k2
  have y3 := hb.k3
  have y4 := hb.k4
  have y5 := hb.k5
  have y6 := hb.k6
  unfold rtW at y0 y1 y2 y3 y4 y5 y6
  have HB := hide hb
  have HF := hide (rt_fr w cb c 1 n b t (.slice a1 L.length p1) (.slice a2 l2 p2) (.slice a3 l3 p3))
  have HL : Hid (LAt (rtW w cb c 1 n b t (.slice a1 L.length p1) (.slice a2 l2 p2) (.slice a3 l3 p3)) cb c) := hide (hA.set c)
  have HUW := hide (up_cb hU hcb HF.out)
  unfold rtW at HB HF HL HUW
  have HH := hide (fun (W : World) => rhalf_any n W)
  rw [hn] at HH
  have HTZ : Hid (decide (t.size = 0) = true ↔ t.toList = []) := by
    unfold Hid
    rw [decide_eq_true_eq, ByteArray.toList_eq, ← List.length_eq_zero_iff, Array.length_toList]
    rfl
  generalize decide (t.size = 0) = tz at *
  have e1 : ((c + 1 : Nat) : Int) - 1 = (c : Int) := by omega
  have e2 : ¬ ((c : Int) < 0) := by omega
  have e3 : ¬ ((100 : Int) < (k : Int)) := by omega
  have HQ := hide (fun (W : World) (u : Up w0 W) => show Calls Try.prog 59 #[.agg #[.bool b, .slice a1 L.length p1]] W fun e w' => ∃ b' ao m cap, e = .returned (.agg #[.bool b', .slice ao m cap]) ∧ m < L.length ∧ Up W w' from (canonR_any b L w0 W a1 p1 hM hlim hLl u).mono (by
    rintro e w' ⟨b', ao, m, cap, rfl, hx, u'⟩
    exact ⟨b', ao, m, cap, rfl, hx.2.1 hcan hl0, u'⟩))
  rw [hcan]
  clear hcan
  clear hL hA hn hb hM hlim hU
  generalize L.length = l1 at *
  have z1 : (0 : Int) < (l1 : Int) := by omega
  clear hl0
  go_enter Try.func45, Try.ntmps45
  go_wp2_with (first
    | (go_at_call 44; refine (HH.out _).mono ?_; rintro e7 w7 ⟨rfl, hw⟩; replace hw := hw.symm; subst hw)
    | (go_at_call 59; refine (HQ.out _ HUW.out).mono ?_; rintro e8 w8 ⟨b', ao, m, cap, rfl, hx8, U8⟩; have d8 := (HB.out.fr (Up.frw1 U8)).fr ((Fr.refl _ w8).alloc (.cells #[.bool b', .slice ao m cap] 62)); have y80 := d8.k0; have y81 := d8.k1; have y82 := d8.k2; have y83 := d8.k3; have y84 := d8.k4; have y85 := d8.k5; have y86 := d8.k6; have HF8 := hide ((HF.out.trans (Up.frw1 U8) (fun _ _ e => e.elim)).alloc (.cells #[.bool b', .slice ao m cap] 62)); have HL8 := hide ((HL.out.upL U8).alloc (.cells #[.bool b', .slice ao m cap] 62)); have gm : ((m : Int) == (l1 : Int)) = false := (by rw [beq_eq_false_iff_ne]; omega); clear hx8; clear U8 d8))
  go_ret
  exact ⟨by simp, HL8.out, HF8.out⟩

set_option maxRecDepth 100000 in
set_option maxHeartbeats 8000000 in
theorem right_10 (w0 w : World) (cb c k : Nat) (n : Int) (b : Bool) (L : List Nat) (t : ByteArray) (a1 a2 a3 : Option Addr) (l2 l3 p1 p2 p3 : Nat) (hL : LAt w cb (c + 1)) (hc : c < 20000) (hk : k ≤ 100) (hn : half n = true) (hM : Sl .u32 w0 (.slice a1 L.length p1) L.length (fun i => L.getD i 0)) (hlim : ∀ i, i < L.length → L.getD i 0 < 4294967296) (hU : Up w0 w) (hcb : w0.heap.size ≤ cb) (hLl : L.length ≤ 900000000) (hcan : canB b L = false) (hl0 : L.length = 0) :
    Calls Try.prog 45 #[.pointer (some ⟨cb, 0, none⟩), .agg #[.int .i64 1, .int .i64 n, .bool b, .slice a1 L.length p1, .string t, .slice a2 l2 p2, .slice a3 l3 p3], .int .i64 (k : Int)] w fun e w' => e = .returned (.bool (canB b L && (decide (n = 0) && (decide (t.size = 0) && (decide (l2 = 0) && decide (l3 = 0)))))) ∧ LAt w' cb c ∧ Fr (fun k => k = cb) w w' := by
  have hA := hL.alloc (.cells #[.int .i64 1, .int .i64 n, .bool b, .slice a1 L.length p1, .string t, .slice a2 l2 p2, .slice a3 l3 p3] 64)
  have x1 := hA.cell
  have x2 := hA.free
  have x3 := (hA.set c).cell
  have hb := rt_box c 1 n b t (.slice a1 L.length p1) (.slice a2 l2 p2) (.slice a3 l3 p3) hL
  have y0 := hb.k0
  have y1 := hb.k1
  have y2 := hb.k2
  have y3 := hb.k3
  have y4 := hb.k4
  have y5 := hb.k5
  have y6 := hb.k6
  unfold rtW at y0 y1 y2 y3 y4 y5 y6
  have HB := hide hb
  have HF := hide (rt_fr w cb c 1 n b t (.slice a1 L.length p1) (.slice a2 l2 p2) (.slice a3 l3 p3))
  have HL : Hid (LAt (rtW w cb c 1 n b t (.slice a1 L.length p1) (.slice a2 l2 p2) (.slice a3 l3 p3)) cb c) := hide (hA.set c)
  have HUW := hide (up_cb hU hcb HF.out)
  unfold rtW at HB HF HL HUW
  have HH := hide (fun (W : World) => rhalf_any n W)
  rw [hn] at HH
  have HTZ : Hid (decide (t.size = 0) = true ↔ t.toList = []) := by
    unfold Hid
    rw [decide_eq_true_eq, ByteArray.toList_eq, ← List.length_eq_zero_iff, Array.length_toList]
    rfl
  generalize decide (t.size = 0) = tz at *
  have e1 : ((c + 1 : Nat) : Int) - 1 = (c : Int) := by omega
  have e2 : ¬ ((c : Int) < 0) := by omega
  have e3 : ¬ ((100 : Int) < (k : Int)) := by omega
  have HQ := hide (fun (W : World) (u : Up w0 W) => show Calls Try.prog 59 #[.agg #[.bool b, .slice a1 L.length p1]] W fun e w' => ∃ ao cap, e = .returned (.agg #[.bool false, .slice ao 0 cap]) ∧ Up W w' from (canonR_any b L w0 W a1 p1 hM hlim hLl u).mono (by
    rintro e w' ⟨b', ao, m, cap, rfl, hx, u'⟩
    obtain ⟨rfl, rfl⟩ := hx.2.2 hl0
    exact ⟨ao, cap, rfl, u'⟩))
  have hbt : b = true := by
    unfold canB at hcan
    rw [if_pos hl0] at hcan
    simpa using hcan
  rw [hcan]
  clear hcan
  subst hbt
  clear hL hA hn hb hM hlim hU
  generalize L.length = l1 at *
  subst hl0
  go_enter Try.func45, Try.ntmps45
  go_wp2_with (first
    | (go_at_call 44; refine (HH.out _).mono ?_; rintro e7 w7 ⟨rfl, hw⟩; replace hw := hw.symm; subst hw)
    | (go_at_call 59; refine (HQ.out _ HUW.out).mono ?_; rintro e8 w8 ⟨ao, cap, rfl, U8⟩; have d8 := (HB.out.fr (Up.frw1 U8)).fr ((Fr.refl _ w8).alloc (.cells #[.bool false, .slice ao 0 cap] 62)); have y80 := d8.k0; have y81 := d8.k1; have y82 := d8.k2; have y83 := d8.k3; have y84 := d8.k4; have y85 := d8.k5; have y86 := d8.k6; have HF8 := hide ((HF.out.trans (Up.frw1 U8) (fun _ _ e => e.elim)).alloc (.cells #[.bool false, .slice ao 0 cap] 62)); have HL8 := hide ((HL.out.upL U8).alloc (.cells #[.bool false, .slice ao 0 cap] 62)); clear U8 d8))
  go_ret
  exact ⟨by simp, HL8.out, HF8.out⟩

set_option maxRecDepth 100000 in
set_option maxHeartbeats 8000000 in
theorem right_1y (w0 w : World) (cb c k : Nat) (n : Int) (b : Bool) (L : List Nat) (t : ByteArray) (a1 a2 a3 : Option Addr) (l2 l3 p1 p2 p3 : Nat) (hL : LAt w cb (c + 1)) (hc : c < 20000) (hk : k ≤ 100) (hn : half n = true) (hM : Sl .u32 w0 (.slice a1 L.length p1) L.length (fun i => L.getD i 0)) (hlim : ∀ i, i < L.length → L.getD i 0 < 4294967296) (hU : Up w0 w) (hcb : w0.heap.size ≤ cb) (hLl : L.length ≤ 900000000) (hcan : canB b L = true) :
    Calls Try.prog 45 #[.pointer (some ⟨cb, 0, none⟩), .agg #[.int .i64 1, .int .i64 n, .bool b, .slice a1 L.length p1, .string t, .slice a2 l2 p2, .slice a3 l3 p3], .int .i64 (k : Int)] w fun e w' => e = .returned (.bool (canB b L && (decide (n = 0) && (decide (t.size = 0) && (decide (l2 = 0) && decide (l3 = 0)))))) ∧ LAt w' cb c ∧ Fr (fun k => k = cb) w w' := by
  have hA := hL.alloc (.cells #[.int .i64 1, .int .i64 n, .bool b, .slice a1 L.length p1, .string t, .slice a2 l2 p2, .slice a3 l3 p3] 64)
  have x1 := hA.cell
  have x2 := hA.free
  have x3 := (hA.set c).cell
  have hb := rt_box c 1 n b t (.slice a1 L.length p1) (.slice a2 l2 p2) (.slice a3 l3 p3) hL
  have y0 := hb.k0
  have y1 := hb.k1
  have y2 := hb.k2
  have y3 := hb.k3
  have y4 := hb.k4
  have y5 := hb.k5
  have y6 := hb.k6
  unfold rtW at y0 y1 y2 y3 y4 y5 y6
  have HB := hide hb
  have HF := hide (rt_fr w cb c 1 n b t (.slice a1 L.length p1) (.slice a2 l2 p2) (.slice a3 l3 p3))
  have HL : Hid (LAt (rtW w cb c 1 n b t (.slice a1 L.length p1) (.slice a2 l2 p2) (.slice a3 l3 p3)) cb c) := hide (hA.set c)
  have HUW := hide (up_cb hU hcb HF.out)
  unfold rtW at HB HF HL HUW
  have HH := hide (fun (W : World) => rhalf_any n W)
  rw [hn] at HH
  have HTZ : Hid (decide (t.size = 0) = true ↔ t.toList = []) := by
    unfold Hid
    rw [decide_eq_true_eq, ByteArray.toList_eq, ← List.length_eq_zero_iff, Array.length_toList]
    rfl
  generalize decide (t.size = 0) = tz at *
  have e1 : ((c + 1 : Nat) : Int) - 1 = (c : Int) := by omega
  have e2 : ¬ ((c : Int) < 0) := by omega
  have e3 : ¬ ((100 : Int) < (k : Int)) := by omega
  have HQ := hide (fun (W : World) (u : Up w0 W) => show Calls Try.prog 59 #[.agg #[.bool b, .slice a1 L.length p1]] W fun e w' => ∃ ao cap, e = .returned (.agg #[.bool b, .slice ao L.length cap]) ∧ Up W w' from (canonR_any b L w0 W a1 p1 hM hlim hLl u).mono (by
    rintro e w' ⟨b', ao, m, cap, rfl, hx, u'⟩
    obtain ⟨rfl, rfl⟩ := hx.1 hcan
    exact ⟨ao, cap, rfl, u'⟩))
  have hb0 : L.length = 0 → b = false := fun e => by
    unfold canB at hcan
    rw [if_pos e] at hcan
    simpa using hcan
  rw [hcan]
  clear hcan
  have gl : ((L.length : Int) == (L.length : Int)) = true := beq_self_eq_true _
  clear hL hA hn hb hM hlim hU
  generalize L.length = l1 at *
  by_cases h1 : l1 = 0
  · have hbf := hb0 h1
    subst h1
    subst hbf
    clear hb0 gl
    by_cases hn0 : n = 0
    · subst hn0
      cases tz
      · have ht : ¬ (t.toList = []) := fun e => by have := HTZ.out.2 e; cases this
        go_enter Try.func45, Try.ntmps45
        go_wp2_with (first
          | (go_at_call 44; refine (HH.out _).mono ?_; rintro e7 w7 ⟨rfl, hw⟩; replace hw := hw.symm; subst hw)
          | (go_at_call 59; refine (HQ.out _ HUW.out).mono ?_; rintro e8 w8 ⟨ao, cap, rfl, U8⟩; have d8 := (HB.out.fr (Up.frw1 U8)).fr ((Fr.refl _ w8).alloc (.cells #[.bool false, .slice ao 0 cap] 62)); have y80 := d8.k0; have y81 := d8.k1; have y82 := d8.k2; have y83 := d8.k3; have y84 := d8.k4; have y85 := d8.k5; have y86 := d8.k6; have HF8 := hide ((HF.out.trans (Up.frw1 U8) (fun _ _ e => e.elim)).alloc (.cells #[.bool false, .slice ao 0 cap] 62)); have HL8 := hide ((HL.out.upL U8).alloc (.cells #[.bool false, .slice ao 0 cap] 62)); clear U8 d8))
        go_ret
        exact ⟨by simp, HL8.out, HF8.out⟩
      · have ht : t.toList = [] := HTZ.out.1 rfl
        by_cases h2 : l2 = 0
        · subst h2
          by_cases h3 : l3 = 0
          · subst h3
            go_enter Try.func45, Try.ntmps45
            go_wp2_with (first
              | (go_at_call 44; refine (HH.out _).mono ?_; rintro e7 w7 ⟨rfl, hw⟩; replace hw := hw.symm; subst hw)
              | (go_at_call 59; refine (HQ.out _ HUW.out).mono ?_; rintro e8 w8 ⟨ao, cap, rfl, U8⟩; have d8 := (HB.out.fr (Up.frw1 U8)).fr ((Fr.refl _ w8).alloc (.cells #[.bool false, .slice ao 0 cap] 62)); have y80 := d8.k0; have y81 := d8.k1; have y82 := d8.k2; have y83 := d8.k3; have y84 := d8.k4; have y85 := d8.k5; have y86 := d8.k6; have HF8 := hide ((HF.out.trans (Up.frw1 U8) (fun _ _ e => e.elim)).alloc (.cells #[.bool false, .slice ao 0 cap] 62)); have HL8 := hide ((HL.out.upL U8).alloc (.cells #[.bool false, .slice ao 0 cap] 62)); clear U8 d8))
            go_ret
            exact ⟨by simp, HL8.out, HF8.out⟩
          · have z3 : (0 : Int) < (l3 : Int) := by omega
            have HN := hide h3
            clear h3
            go_enter Try.func45, Try.ntmps45
            go_wp2_with (first
              | (go_at_call 44; refine (HH.out _).mono ?_; rintro e7 w7 ⟨rfl, hw⟩; replace hw := hw.symm; subst hw)
              | (go_at_call 59; refine (HQ.out _ HUW.out).mono ?_; rintro e8 w8 ⟨ao, cap, rfl, U8⟩; have d8 := (HB.out.fr (Up.frw1 U8)).fr ((Fr.refl _ w8).alloc (.cells #[.bool false, .slice ao 0 cap] 62)); have y80 := d8.k0; have y81 := d8.k1; have y82 := d8.k2; have y83 := d8.k3; have y84 := d8.k4; have y85 := d8.k5; have y86 := d8.k6; have HF8 := hide ((HF.out.trans (Up.frw1 U8) (fun _ _ e => e.elim)).alloc (.cells #[.bool false, .slice ao 0 cap] 62)); have HL8 := hide ((HL.out.upL U8).alloc (.cells #[.bool false, .slice ao 0 cap] 62)); clear U8 d8))
            go_ret
            exact ⟨by have h := HN.out; simp [h]; omega, HL8.out, HF8.out⟩
        · have z2 : (0 : Int) < (l2 : Int) := by omega
          have HN := hide h2
          clear h2
          go_enter Try.func45, Try.ntmps45
          go_wp2_with (first
            | (go_at_call 44; refine (HH.out _).mono ?_; rintro e7 w7 ⟨rfl, hw⟩; replace hw := hw.symm; subst hw)
            | (go_at_call 59; refine (HQ.out _ HUW.out).mono ?_; rintro e8 w8 ⟨ao, cap, rfl, U8⟩; have d8 := (HB.out.fr (Up.frw1 U8)).fr ((Fr.refl _ w8).alloc (.cells #[.bool false, .slice ao 0 cap] 62)); have y80 := d8.k0; have y81 := d8.k1; have y82 := d8.k2; have y83 := d8.k3; have y84 := d8.k4; have y85 := d8.k5; have y86 := d8.k6; have HF8 := hide ((HF.out.trans (Up.frw1 U8) (fun _ _ e => e.elim)).alloc (.cells #[.bool false, .slice ao 0 cap] 62)); have HL8 := hide ((HL.out.upL U8).alloc (.cells #[.bool false, .slice ao 0 cap] 62)); clear U8 d8))
          go_ret
          exact ⟨by simp [HN.out], HL8.out, HF8.out⟩
    · have gn : (n == 0) = false := by rw [beq_eq_false_iff_ne]; exact hn0
      have HN := hide hn0
      clear hn0
      go_enter Try.func45, Try.ntmps45
      go_wp2_with (first
        | (go_at_call 44; refine (HH.out _).mono ?_; rintro e7 w7 ⟨rfl, hw⟩; replace hw := hw.symm; subst hw)
        | (go_at_call 59; refine (HQ.out _ HUW.out).mono ?_; rintro e8 w8 ⟨ao, cap, rfl, U8⟩; have d8 := (HB.out.fr (Up.frw1 U8)).fr ((Fr.refl _ w8).alloc (.cells #[.bool false, .slice ao 0 cap] 62)); have y80 := d8.k0; have y81 := d8.k1; have y82 := d8.k2; have y83 := d8.k3; have y84 := d8.k4; have y85 := d8.k5; have y86 := d8.k6; have HF8 := hide ((HF.out.trans (Up.frw1 U8) (fun _ _ e => e.elim)).alloc (.cells #[.bool false, .slice ao 0 cap] 62)); have HL8 := hide ((HL.out.upL U8).alloc (.cells #[.bool false, .slice ao 0 cap] 62)); clear U8 d8))
      go_ret
      exact ⟨by simp [HN.out], HL8.out, HF8.out⟩
  · have z1 : (0 : Int) < (l1 : Int) := by omega
    clear h1 hb0
    cases b
    · by_cases hn0 : n = 0
      · subst hn0
        cases tz
        · have ht : ¬ (t.toList = []) := fun e => by have := HTZ.out.2 e; cases this
          go_enter Try.func45, Try.ntmps45
          go_wp2_with (first
            | (go_at_call 44; refine (HH.out _).mono ?_; rintro e7 w7 ⟨rfl, hw⟩; replace hw := hw.symm; subst hw)
            | (go_at_call 59; refine (HQ.out _ HUW.out).mono ?_; rintro e8 w8 ⟨ao, cap, rfl, U8⟩; have d8 := (HB.out.fr (Up.frw1 U8)).fr ((Fr.refl _ w8).alloc (.cells #[.bool false, .slice ao l1 cap] 62)); have y80 := d8.k0; have y81 := d8.k1; have y82 := d8.k2; have y83 := d8.k3; have y84 := d8.k4; have y85 := d8.k5; have y86 := d8.k6; have HF8 := hide ((HF.out.trans (Up.frw1 U8) (fun _ _ e => e.elim)).alloc (.cells #[.bool false, .slice ao l1 cap] 62)); have HL8 := hide ((HL.out.upL U8).alloc (.cells #[.bool false, .slice ao l1 cap] 62)); clear U8 d8))
          go_ret
          exact ⟨by simp, HL8.out, HF8.out⟩
        · have ht : t.toList = [] := HTZ.out.1 rfl
          by_cases h2 : l2 = 0
          · subst h2
            by_cases h3 : l3 = 0
            · subst h3
              go_enter Try.func45, Try.ntmps45
              go_wp2_with (first
                | (go_at_call 44; refine (HH.out _).mono ?_; rintro e7 w7 ⟨rfl, hw⟩; replace hw := hw.symm; subst hw)
                | (go_at_call 59; refine (HQ.out _ HUW.out).mono ?_; rintro e8 w8 ⟨ao, cap, rfl, U8⟩; have d8 := (HB.out.fr (Up.frw1 U8)).fr ((Fr.refl _ w8).alloc (.cells #[.bool false, .slice ao l1 cap] 62)); have y80 := d8.k0; have y81 := d8.k1; have y82 := d8.k2; have y83 := d8.k3; have y84 := d8.k4; have y85 := d8.k5; have y86 := d8.k6; have HF8 := hide ((HF.out.trans (Up.frw1 U8) (fun _ _ e => e.elim)).alloc (.cells #[.bool false, .slice ao l1 cap] 62)); have HL8 := hide ((HL.out.upL U8).alloc (.cells #[.bool false, .slice ao l1 cap] 62)); clear U8 d8))
              go_ret
              exact ⟨by simp, HL8.out, HF8.out⟩
            · have z3 : (0 : Int) < (l3 : Int) := by omega
              have HN := hide h3
              clear h3
              go_enter Try.func45, Try.ntmps45
              go_wp2_with (first
                | (go_at_call 44; refine (HH.out _).mono ?_; rintro e7 w7 ⟨rfl, hw⟩; replace hw := hw.symm; subst hw)
                | (go_at_call 59; refine (HQ.out _ HUW.out).mono ?_; rintro e8 w8 ⟨ao, cap, rfl, U8⟩; have d8 := (HB.out.fr (Up.frw1 U8)).fr ((Fr.refl _ w8).alloc (.cells #[.bool false, .slice ao l1 cap] 62)); have y80 := d8.k0; have y81 := d8.k1; have y82 := d8.k2; have y83 := d8.k3; have y84 := d8.k4; have y85 := d8.k5; have y86 := d8.k6; have HF8 := hide ((HF.out.trans (Up.frw1 U8) (fun _ _ e => e.elim)).alloc (.cells #[.bool false, .slice ao l1 cap] 62)); have HL8 := hide ((HL.out.upL U8).alloc (.cells #[.bool false, .slice ao l1 cap] 62)); clear U8 d8))
              go_ret
              exact ⟨by have h := HN.out; simp [h]; omega, HL8.out, HF8.out⟩
          · have z2 : (0 : Int) < (l2 : Int) := by omega
            have HN := hide h2
            clear h2
            go_enter Try.func45, Try.ntmps45
            go_wp2_with (first
              | (go_at_call 44; refine (HH.out _).mono ?_; rintro e7 w7 ⟨rfl, hw⟩; replace hw := hw.symm; subst hw)
              | (go_at_call 59; refine (HQ.out _ HUW.out).mono ?_; rintro e8 w8 ⟨ao, cap, rfl, U8⟩; have d8 := (HB.out.fr (Up.frw1 U8)).fr ((Fr.refl _ w8).alloc (.cells #[.bool false, .slice ao l1 cap] 62)); have y80 := d8.k0; have y81 := d8.k1; have y82 := d8.k2; have y83 := d8.k3; have y84 := d8.k4; have y85 := d8.k5; have y86 := d8.k6; have HF8 := hide ((HF.out.trans (Up.frw1 U8) (fun _ _ e => e.elim)).alloc (.cells #[.bool false, .slice ao l1 cap] 62)); have HL8 := hide ((HL.out.upL U8).alloc (.cells #[.bool false, .slice ao l1 cap] 62)); clear U8 d8))
            go_ret
            exact ⟨by simp [HN.out], HL8.out, HF8.out⟩
      · have gn : (n == 0) = false := by rw [beq_eq_false_iff_ne]; exact hn0
        have HN := hide hn0
        clear hn0
        go_enter Try.func45, Try.ntmps45
        go_wp2_with (first
          | (go_at_call 44; refine (HH.out _).mono ?_; rintro e7 w7 ⟨rfl, hw⟩; replace hw := hw.symm; subst hw)
          | (go_at_call 59; refine (HQ.out _ HUW.out).mono ?_; rintro e8 w8 ⟨ao, cap, rfl, U8⟩; have d8 := (HB.out.fr (Up.frw1 U8)).fr ((Fr.refl _ w8).alloc (.cells #[.bool false, .slice ao l1 cap] 62)); have y80 := d8.k0; have y81 := d8.k1; have y82 := d8.k2; have y83 := d8.k3; have y84 := d8.k4; have y85 := d8.k5; have y86 := d8.k6; have HF8 := hide ((HF.out.trans (Up.frw1 U8) (fun _ _ e => e.elim)).alloc (.cells #[.bool false, .slice ao l1 cap] 62)); have HL8 := hide ((HL.out.upL U8).alloc (.cells #[.bool false, .slice ao l1 cap] 62)); clear U8 d8))
        go_ret
        exact ⟨by simp [HN.out], HL8.out, HF8.out⟩
    · by_cases hn0 : n = 0
      · subst hn0
        cases tz
        · have ht : ¬ (t.toList = []) := fun e => by have := HTZ.out.2 e; cases this
          go_enter Try.func45, Try.ntmps45
          go_wp2_with (first
            | (go_at_call 44; refine (HH.out _).mono ?_; rintro e7 w7 ⟨rfl, hw⟩; replace hw := hw.symm; subst hw)
            | (go_at_call 59; refine (HQ.out _ HUW.out).mono ?_; rintro e8 w8 ⟨ao, cap, rfl, U8⟩; have d8 := (HB.out.fr (Up.frw1 U8)).fr ((Fr.refl _ w8).alloc (.cells #[.bool true, .slice ao l1 cap] 62)); have y80 := d8.k0; have y81 := d8.k1; have y82 := d8.k2; have y83 := d8.k3; have y84 := d8.k4; have y85 := d8.k5; have y86 := d8.k6; have HF8 := hide ((HF.out.trans (Up.frw1 U8) (fun _ _ e => e.elim)).alloc (.cells #[.bool true, .slice ao l1 cap] 62)); have HL8 := hide ((HL.out.upL U8).alloc (.cells #[.bool true, .slice ao l1 cap] 62)); clear U8 d8))
          go_ret
          exact ⟨by simp, HL8.out, HF8.out⟩
        · have ht : t.toList = [] := HTZ.out.1 rfl
          by_cases h2 : l2 = 0
          · subst h2
            by_cases h3 : l3 = 0
            · subst h3
              go_enter Try.func45, Try.ntmps45
              go_wp2_with (first
                | (go_at_call 44; refine (HH.out _).mono ?_; rintro e7 w7 ⟨rfl, hw⟩; replace hw := hw.symm; subst hw)
                | (go_at_call 59; refine (HQ.out _ HUW.out).mono ?_; rintro e8 w8 ⟨ao, cap, rfl, U8⟩; have d8 := (HB.out.fr (Up.frw1 U8)).fr ((Fr.refl _ w8).alloc (.cells #[.bool true, .slice ao l1 cap] 62)); have y80 := d8.k0; have y81 := d8.k1; have y82 := d8.k2; have y83 := d8.k3; have y84 := d8.k4; have y85 := d8.k5; have y86 := d8.k6; have HF8 := hide ((HF.out.trans (Up.frw1 U8) (fun _ _ e => e.elim)).alloc (.cells #[.bool true, .slice ao l1 cap] 62)); have HL8 := hide ((HL.out.upL U8).alloc (.cells #[.bool true, .slice ao l1 cap] 62)); clear U8 d8))
              go_ret
              exact ⟨by simp, HL8.out, HF8.out⟩
            · have z3 : (0 : Int) < (l3 : Int) := by omega
              have HN := hide h3
              clear h3
              go_enter Try.func45, Try.ntmps45
              go_wp2_with (first
                | (go_at_call 44; refine (HH.out _).mono ?_; rintro e7 w7 ⟨rfl, hw⟩; replace hw := hw.symm; subst hw)
                | (go_at_call 59; refine (HQ.out _ HUW.out).mono ?_; rintro e8 w8 ⟨ao, cap, rfl, U8⟩; have d8 := (HB.out.fr (Up.frw1 U8)).fr ((Fr.refl _ w8).alloc (.cells #[.bool true, .slice ao l1 cap] 62)); have y80 := d8.k0; have y81 := d8.k1; have y82 := d8.k2; have y83 := d8.k3; have y84 := d8.k4; have y85 := d8.k5; have y86 := d8.k6; have HF8 := hide ((HF.out.trans (Up.frw1 U8) (fun _ _ e => e.elim)).alloc (.cells #[.bool true, .slice ao l1 cap] 62)); have HL8 := hide ((HL.out.upL U8).alloc (.cells #[.bool true, .slice ao l1 cap] 62)); clear U8 d8))
              go_ret
              exact ⟨by have h := HN.out; simp [h]; omega, HL8.out, HF8.out⟩
          · have z2 : (0 : Int) < (l2 : Int) := by omega
            have HN := hide h2
            clear h2
            go_enter Try.func45, Try.ntmps45
            go_wp2_with (first
              | (go_at_call 44; refine (HH.out _).mono ?_; rintro e7 w7 ⟨rfl, hw⟩; replace hw := hw.symm; subst hw)
              | (go_at_call 59; refine (HQ.out _ HUW.out).mono ?_; rintro e8 w8 ⟨ao, cap, rfl, U8⟩; have d8 := (HB.out.fr (Up.frw1 U8)).fr ((Fr.refl _ w8).alloc (.cells #[.bool true, .slice ao l1 cap] 62)); have y80 := d8.k0; have y81 := d8.k1; have y82 := d8.k2; have y83 := d8.k3; have y84 := d8.k4; have y85 := d8.k5; have y86 := d8.k6; have HF8 := hide ((HF.out.trans (Up.frw1 U8) (fun _ _ e => e.elim)).alloc (.cells #[.bool true, .slice ao l1 cap] 62)); have HL8 := hide ((HL.out.upL U8).alloc (.cells #[.bool true, .slice ao l1 cap] 62)); clear U8 d8))
            go_ret
            exact ⟨by simp [HN.out], HL8.out, HF8.out⟩
      · have gn : (n == 0) = false := by rw [beq_eq_false_iff_ne]; exact hn0
        have HN := hide hn0
        clear hn0
        go_enter Try.func45, Try.ntmps45
        go_wp2_with (first
          | (go_at_call 44; refine (HH.out _).mono ?_; rintro e7 w7 ⟨rfl, hw⟩; replace hw := hw.symm; subst hw)
          | (go_at_call 59; refine (HQ.out _ HUW.out).mono ?_; rintro e8 w8 ⟨ao, cap, rfl, U8⟩; have d8 := (HB.out.fr (Up.frw1 U8)).fr ((Fr.refl _ w8).alloc (.cells #[.bool true, .slice ao l1 cap] 62)); have y80 := d8.k0; have y81 := d8.k1; have y82 := d8.k2; have y83 := d8.k3; have y84 := d8.k4; have y85 := d8.k5; have y86 := d8.k6; have HF8 := hide ((HF.out.trans (Up.frw1 U8) (fun _ _ e => e.elim)).alloc (.cells #[.bool true, .slice ao l1 cap] 62)); have HL8 := hide ((HL.out.upL U8).alloc (.cells #[.bool true, .slice ao l1 cap] 62)); clear U8 d8))
        go_ret
        exact ⟨by simp [HN.out], HL8.out, HF8.out⟩

theorem right_1 (w0 w : World) (cb c k : Nat) (n : Int) (b : Bool) (L : List Nat) (t : ByteArray) (a1 a2 a3 : Option Addr) (l2 l3 p1 p2 p3 : Nat) (hL : LAt w cb (c + 1)) (hc : c < 20000) (hk : k ≤ 100) (hn : half n = true) (hM : Sl .u32 w0 (.slice a1 L.length p1) L.length (fun i => L.getD i 0)) (hlim : ∀ i, i < L.length → L.getD i 0 < 4294967296) (hU : Up w0 w) (hcb : w0.heap.size ≤ cb) (hLl : L.length ≤ 900000000) :
    Calls Try.prog 45 #[.pointer (some ⟨cb, 0, none⟩), .agg #[.int .i64 1, .int .i64 n, .bool b, .slice a1 L.length p1, .string t, .slice a2 l2 p2, .slice a3 l3 p3], .int .i64 (k : Int)] w fun e w' => e = .returned (.bool (canB b L && (decide (n = 0) && (decide (t.size = 0) && (decide (l2 = 0) && decide (l3 = 0)))))) ∧ LAt w' cb c ∧ Fr (fun k => k = cb) w w' := by
  by_cases hcan : canB b L = true
  · exact right_1y w0 w cb c k n b L t a1 a2 a3 l2 l3 p1 p2 p3 hL hc hk hn hM hlim hU hcb hLl hcan
  · have hcan : canB b L = false := by simpa using hcan
    by_cases hl0 : L.length = 0
    · exact right_10 w0 w cb c k n b L t a1 a2 a3 l2 l3 p1 p2 p3 hL hc hk hn hM hlim hU hcb hLl hcan hl0
    · exact right_1n w0 w cb c k n b L t a1 a2 a3 l2 l3 p1 p2 p3 hL hc hk hn hM hlim hU hcb hLl hcan hl0

end Go.Proofs.Ytilcigjhogcjkaa
