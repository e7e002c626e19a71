/-
  What is proved here: tandemref10's right of plain kinds.
-/
import Derived.Test.YtilcigjhogcjkaaRPRt1
namespace Go.Proofs.Ytilcigjhogcjkaa
open Go Go.RowKit

set_option maxRecDepth 100000 in
set_option maxHeartbeats 4000000 in
theorem right_3 (w : World) (cb c k : Nat) (n : Int) (b : Bool) (t : ByteArray) (a1 a2 a3 : Option Addr) (l1 l2 l3 p1 p2 p3 : Nat) (hL : LAt w cb (c + 1)) (hc : c < 20000) (hk : k ≤ 100) (hn : half n = true) :
    Calls Try.prog 45 #[.pointer (some ⟨cb, 0, none⟩), .agg #[.int .i64 3, .int .i64 n, .bool b, .slice a1 l1 p1, .string t, .slice a2 l2 p2, .slice a3 l3 p3], .int .i64 (k : Int)] w fun e w' => e = .returned (.bool (decide (l1 = 0) && (!b && (decide (t.size = 0) && (decide (l2 = 0) && (decide (l3 = 0))))))) ∧ w' = rtW w cb c 3 n b t (.slice a1 l1 p1) (.slice a2 l2 p2) (.slice a3 l3 p3) := by
  have hA := hL.alloc (.cells #[.int .i64 3, .int .i64 n, .bool b, .slice a1 l1 p1, .string t, .slice a2 l2 p2, .slice a3 l3 p3] 64)
  have x1 := hA.cell
  have x2 := hA.free
  have x3 := (hA.set c).cell
  have hb := rt_box c 3 n b t (.slice a1 l1 p1) (.slice a2 l2 p2) (.slice a3 l3 p3) hL
  have y0 := hb.k0
  have y1 := hb.k1
  have y2 := hb.k2
  have y3 := hb.k3
  have y4 := hb.k4
  have y5 := hb.k5
  have y6 := hb.k6
  unfold rtW at y0 y1 y2 y3 y4 y5 y6
  have HH := hide (fun (W : World) => rhalf_any n W)
  rw [hn] at HH
  have HTZ : Hid (decide (t.size = 0) = true ↔ t.toList = []) := by
    unfold Hid
    rw [decide_eq_true_eq, ByteArray.toList_eq, ← List.length_eq_zero_iff, Array.length_toList]
    rfl
  generalize decide (t.size = 0) = tz at *
  have e1 : ((c + 1 : Nat) : Int) - 1 = (c : Int) := by omega
  have e2 : ¬ ((c : Int) < 0) := by omega
  have e3 : ¬ ((100 : Int) < (k : Int)) := by omega
  clear hL hA hn hb
  by_cases h1 : l1 = 0
  · subst h1
    cases b
    · cases tz
      · have ht : ¬ (t.toList = []) := fun e => by have := HTZ.out.2 e; cases this
        go_enter Try.func45, Try.ntmps45
        go_wp2_with (go_at_call 44; refine (HH.out _).mono ?_; rintro e7 w7 ⟨rfl, hw⟩; replace hw := hw.symm; subst hw)
        go_ret
        exact ⟨by simp, rfl⟩
      · have ht : t.toList = [] := HTZ.out.1 rfl
        by_cases h2 : l2 = 0
        · subst h2
          by_cases h3 : l3 = 0
          · subst h3
            go_enter Try.func45, Try.ntmps45
            go_wp2_with (go_at_call 44; refine (HH.out _).mono ?_; rintro e7 w7 ⟨rfl, hw⟩; replace hw := hw.symm; subst hw)
            go_ret
            exact ⟨by simp, rfl⟩
          · have z3 : (0 : Int) < (l3 : Int) := by omega
            have HN := hide h3
            clear h3
            go_enter Try.func45, Try.ntmps45
            go_wp2_with (go_at_call 44; refine (HH.out _).mono ?_; rintro e7 w7 ⟨rfl, hw⟩; replace hw := hw.symm; subst hw)
            go_ret
            exact ⟨by have h := HN.out; simp [h]; omega, rfl⟩
        · have z2 : (0 : Int) < (l2 : Int) := by omega
          have HN := hide h2
          clear h2
          go_enter Try.func45, Try.ntmps45
          go_wp2_with (go_at_call 44; refine (HH.out _).mono ?_; rintro e7 w7 ⟨rfl, hw⟩; replace hw := hw.symm; subst hw)
          go_ret
          exact ⟨by simp [HN.out], rfl⟩
    · go_enter Try.func45, Try.ntmps45
      go_wp2_with (go_at_call 44; refine (HH.out _).mono ?_; rintro e7 w7 ⟨rfl, hw⟩; replace hw := hw.symm; subst hw)
      go_ret
      exact ⟨by simp, rfl⟩
  · have z1 : (0 : Int) < (l1 : Int) := by omega
    have HN := hide h1
    clear h1
    go_enter Try.func45, Try.ntmps45
    go_wp2_with (go_at_call 44; refine (HH.out _).mono ?_; rintro e7 w7 ⟨rfl, hw⟩; replace hw := hw.symm; subst hw)
    go_ret
    exact ⟨by simp [HN.out], rfl⟩

set_option maxRecDepth 100000 in
set_option maxHeartbeats 4000000 in
theorem right_9 (w : World) (cb c k : Nat) (n : Int) (b : Bool) (t : ByteArray) (a1 a2 a3 : Option Addr) (l1 l2 l3 p1 p2 p3 : Nat) (hL : LAt w cb (c + 1)) (hc : c < 20000) (hk : k ≤ 100) (hn : half n = true) :
    Calls Try.prog 45 #[.pointer (some ⟨cb, 0, none⟩), .agg #[.int .i64 9, .int .i64 n, .bool b, .slice a1 l1 p1, .string t, .slice a2 l2 p2, .slice a3 l3 p3], .int .i64 (k : Int)] w fun e w' => e = .returned (.bool (decide (l1 = 0) && (!b && (decide (t.size = 0) && (decide (l2 = 0) && (decide (l3 = 0))))))) ∧ w' = rtW w cb c 9 n b t (.slice a1 l1 p1) (.slice a2 l2 p2) (.slice a3 l3 p3) := by
  have hA := hL.alloc (.cells #[.int .i64 9, .int .i64 n, .bool b, .slice a1 l1 p1, .string t, .slice a2 l2 p2, .slice a3 l3 p3] 64)
  have x1 := hA.cell
  have x2 := hA.free
  have x3 := (hA.set c).cell
  have hb := rt_box c 9 n b t (.slice a1 l1 p1) (.slice a2 l2 p2) (.slice a3 l3 p3) hL
  have y0 := hb.k0
  have y1 := hb.k1
  have y2 := hb.k2
  have y3 := hb.k3
  have y4 := hb.k4
  have y5 := hb.k5
  have y6 := hb.k6
  unfold rtW at y0 y1 y2 y3 y4 y5 y6
  have HH := hide (fun (W : World) => rhalf_any n W)
  rw [hn] at HH
  have HTZ : Hid (decide (t.size = 0) = true ↔ t.toList = []) := by
    unfold Hid
    rw [decide_eq_true_eq, ByteArray.toList_eq, ← List.length_eq_zero_iff, Array.length_toList]
    rfl
  generalize decide (t.size = 0) = tz at *
  have e1 : ((c + 1 : Nat) : Int) - 1 = (c : Int) := by omega
  have e2 : ¬ ((c : Int) < 0) := by omega
  have e3 : ¬ ((100 : Int) < (k : Int)) := by omega
  clear hL hA hn hb
  by_cases h1 : l1 = 0
  · subst h1
    cases b
    · cases tz
      · have ht : ¬ (t.toList = []) := fun e => by have := HTZ.out.2 e; cases this
        go_enter Try.func45, Try.ntmps45
        go_wp2_with (go_at_call 44; refine (HH.out _).mono ?_; rintro e7 w7 ⟨rfl, hw⟩; replace hw := hw.symm; subst hw)
        go_ret
        exact ⟨by simp, rfl⟩
      · have ht : t.toList = [] := HTZ.out.1 rfl
        by_cases h2 : l2 = 0
        · subst h2
          by_cases h3 : l3 = 0
          · subst h3
            go_enter Try.func45, Try.ntmps45
            go_wp2_with (go_at_call 44; refine (HH.out _).mono ?_; rintro e7 w7 ⟨rfl, hw⟩; replace hw := hw.symm; subst hw)
            go_ret
            exact ⟨by simp, rfl⟩
          · have z3 : (0 : Int) < (l3 : Int) := by omega
            have HN := hide h3
            clear h3
            go_enter Try.func45, Try.ntmps45
            go_wp2_with (go_at_call 44; refine (HH.out _).mono ?_; rintro e7 w7 ⟨rfl, hw⟩; replace hw := hw.symm; subst hw)
            go_ret
            exact ⟨by have h := HN.out; simp [h]; omega, rfl⟩
        · have z2 : (0 : Int) < (l2 : Int) := by omega
          have HN := hide h2
          clear h2
          go_enter Try.func45, Try.ntmps45
          go_wp2_with (go_at_call 44; refine (HH.out _).mono ?_; rintro e7 w7 ⟨rfl, hw⟩; replace hw := hw.symm; subst hw)
          go_ret
          exact ⟨by simp [HN.out], rfl⟩
    · go_enter Try.func45, Try.ntmps45
      go_wp2_with (go_at_call 44; refine (HH.out _).mono ?_; rintro e7 w7 ⟨rfl, hw⟩; replace hw := hw.symm; subst hw)
      go_ret
      exact ⟨by simp, rfl⟩
  · have z1 : (0 : Int) < (l1 : Int) := by omega
    have HN := hide h1
    clear h1
    go_enter Try.func45, Try.ntmps45
    go_wp2_with (go_at_call 44; refine (HH.out _).mono ?_; rintro e7 w7 ⟨rfl, hw⟩; replace hw := hw.symm; subst hw)
    go_ret
    exact ⟨by simp [HN.out], rfl⟩

set_option maxRecDepth 100000 in
set_option maxHeartbeats 4000000 in
theorem right_4 (w : World) (cb c k : Nat) (n : Int) (b : Bool) (t : ByteArray) (a1 a2 a3 : Option Addr) (l1 l2 l3 p1 p2 p3 : Nat) (hL : LAt w cb (c + 1)) (hc : c < 20000) (hk : k ≤ 100) (hn : half n = true) :
    Calls Try.prog 45 #[.pointer (some ⟨cb, 0, none⟩), .agg #[.int .i64 4, .int .i64 n, .bool b, .slice a1 l1 p1, .string t, .slice a2 l2 p2, .slice a3 l3 p3], .int .i64 (k : Int)] w fun e w' => e = .returned (.bool (decide (l1 = 0) && (!b && (decide (n = 0) && (decide (l2 = 0) && (decide (l3 = 0))))))) ∧ w' = rtW w cb c 4 n b t (.slice a1 l1 p1) (.slice a2 l2 p2) (.slice a3 l3 p3) := by
  have hA := hL.alloc (.cells #[.int .i64 4, .int .i64 n, .bool b, .slice a1 l1 p1, .string t, .slice a2 l2 p2, .slice a3 l3 p3] 64)
  have x1 := hA.cell
  have x2 := hA.free
  have x3 := (hA.set c).cell
  have hb := rt_box c 4 n b t (.slice a1 l1 p1) (.slice a2 l2 p2) (.slice a3 l3 p3) hL
  have y0 := hb.k0
  have y1 := hb.k1
  have y2 := hb.k2
  have y3 := hb.k3
  have y4 := hb.k4
  have y5 := hb.k5
  have y6 := hb.k6
  unfold rtW at y0 y1 y2 y3 y4 y5 y6
  have HH := hide (fun (W : World) => rhalf_any n W)
  rw [hn] at HH
  have e1 : ((c + 1 : Nat) : Int) - 1 = (c : Int) := by omega
  have e2 : ¬ ((c : Int) < 0) := by omega
  have e3 : ¬ ((100 : Int) < (k : Int)) := by omega
  clear hL hA hn hb
  by_cases h1 : l1 = 0
  · subst h1
    cases b
    · by_cases hn0 : n = 0
      · subst hn0
        by_cases h2 : l2 = 0
        · subst h2
          by_cases h3 : l3 = 0
          · subst h3
            go_enter Try.func45, Try.ntmps45
            go_wp2_with (go_at_call 44; refine (HH.out _).mono ?_; rintro e7 w7 ⟨rfl, hw⟩; replace hw := hw.symm; subst hw)
            go_ret
            exact ⟨by simp, rfl⟩
          · have z3 : (0 : Int) < (l3 : Int) := by omega
            have HN := hide h3
            clear h3
            go_enter Try.func45, Try.ntmps45
            go_wp2_with (go_at_call 44; refine (HH.out _).mono ?_; rintro e7 w7 ⟨rfl, hw⟩; replace hw := hw.symm; subst hw)
            go_ret
            exact ⟨by have h := HN.out; simp [h]; omega, rfl⟩
        · have z2 : (0 : Int) < (l2 : Int) := by omega
          have HN := hide h2
          clear h2
          go_enter Try.func45, Try.ntmps45
          go_wp2_with (go_at_call 44; refine (HH.out _).mono ?_; rintro e7 w7 ⟨rfl, hw⟩; replace hw := hw.symm; subst hw)
          go_ret
          exact ⟨by simp [HN.out], rfl⟩
      · have gn : (n == 0) = false := by rw [beq_eq_false_iff_ne]; exact hn0
        have HN := hide hn0
        clear hn0
        go_enter Try.func45, Try.ntmps45
        go_wp2_with (go_at_call 44; refine (HH.out _).mono ?_; rintro e7 w7 ⟨rfl, hw⟩; replace hw := hw.symm; subst hw)
        go_ret
        exact ⟨by simp [HN.out], rfl⟩
    · go_enter Try.func45, Try.ntmps45
      go_wp2_with (go_at_call 44; refine (HH.out _).mono ?_; rintro e7 w7 ⟨rfl, hw⟩; replace hw := hw.symm; subst hw)
      go_ret
      exact ⟨by simp, rfl⟩
  · have z1 : (0 : Int) < (l1 : Int) := by omega
    have HN := hide h1
    clear h1
    go_enter Try.func45, Try.ntmps45
    go_wp2_with (go_at_call 44; refine (HH.out _).mono ?_; rintro e7 w7 ⟨rfl, hw⟩; replace hw := hw.symm; subst hw)
    go_ret
    exact ⟨by simp [HN.out], rfl⟩

set_option maxRecDepth 100000 in
set_option maxHeartbeats 4000000 in
theorem right_5 (w : World) (cb c k : Nat) (n : Int) (b : Bool) (t : ByteArray) (a1 a2 a3 : Option Addr) (l1 l2 l3 p1 p2 p3 : Nat) (hL : LAt w cb (c + 1)) (hc : c < 20000) (hk : k ≤ 100) (hn : half n = true) :
    Calls Try.prog 45 #[.pointer (some ⟨cb, 0, none⟩), .agg #[.int .i64 5, .int .i64 n, .bool b, .slice a1 l1 p1, .string t, .slice a2 l2 p2, .slice a3 l3 p3], .int .i64 (k : Int)] w fun e w' => e = .returned (.bool (decide (l1 = 0) && (!b && (decide (l2 = 0) && (decide (l3 = 0)))))) ∧ w' = rtW w cb c 5 n b t (.slice a1 l1 p1) (.slice a2 l2 p2) (.slice a3 l3 p3) := by
  have hA := hL.alloc (.cells #[.int .i64 5, .int .i64 n, .bool b, .slice a1 l1 p1, .string t, .slice a2 l2 p2, .slice a3 l3 p3] 64)
  have x1 := hA.cell
  have x2 := hA.free
  have x3 := (hA.set c).cell
  have hb := rt_box c 5 n b t (.slice a1 l1 p1) (.slice a2 l2 p2) (.slice a3 l3 p3) hL
  have y0 := hb.k0
  have y1 := hb.k1
  have y2 := hb.k2
  have y3 := hb.k3
  have y4 := hb.k4
  have y5 := hb.k5
  have y6 := hb.k6
  unfold rtW at y0 y1 y2 y3 y4 y5 y6
  have HH := hide (fun (W : World) => rhalf_any n W)
  rw [hn] at HH
  have e1 : ((c + 1 : Nat) : Int) - 1 = (c : Int) := by omega
  have e2 : ¬ ((c : Int) < 0) := by omega
  have e3 : ¬ ((100 : Int) < (k : Int)) := by omega
  clear hL hA hn hb
  by_cases h1 : l1 = 0
  · subst h1
    cases b
    · by_cases h2 : l2 = 0
      · subst h2
        by_cases h3 : l3 = 0
        · subst h3
          go_enter Try.func45, Try.ntmps45
          go_wp2_with (go_at_call 44; refine (HH.out _).mono ?_; rintro e7 w7 ⟨rfl, hw⟩; replace hw := hw.symm; subst hw)
          go_ret
          exact ⟨by simp, rfl⟩
        · have z3 : (0 : Int) < (l3 : Int) := by omega
          have HN := hide h3
          clear h3
          go_enter Try.func45, Try.ntmps45
          go_wp2_with (go_at_call 44; refine (HH.out _).mono ?_; rintro e7 w7 ⟨rfl, hw⟩; replace hw := hw.symm; subst hw)
          go_ret
          exact ⟨by have h := HN.out; simp [h]; omega, rfl⟩
      · have z2 : (0 : Int) < (l2 : Int) := by omega
        have HN := hide h2
        clear h2
        go_enter Try.func45, Try.ntmps45
        go_wp2_with (go_at_call 44; refine (HH.out _).mono ?_; rintro e7 w7 ⟨rfl, hw⟩; replace hw := hw.symm; subst hw)
        go_ret
        exact ⟨by simp [HN.out], rfl⟩
    · go_enter Try.func45, Try.ntmps45
      go_wp2_with (go_at_call 44; refine (HH.out _).mono ?_; rintro e7 w7 ⟨rfl, hw⟩; replace hw := hw.symm; subst hw)
      go_ret
      exact ⟨by simp, rfl⟩
  · have z1 : (0 : Int) < (l1 : Int) := by omega
    have HN := hide h1
    clear h1
    go_enter Try.func45, Try.ntmps45
    go_wp2_with (go_at_call 44; refine (HH.out _).mono ?_; rintro e7 w7 ⟨rfl, hw⟩; replace hw := hw.symm; subst hw)
    go_ret
    exact ⟨by simp [HN.out], rfl⟩

set_option maxRecDepth 100000 in
set_option maxHeartbeats 4000000 in
theorem right_8 (w : World) (cb c k : Nat) (n : Int) (b : Bool) (t : ByteArray) (a1 a2 a3 : Option Addr) (l1 l2 l3 p1 p2 p3 : Nat) (hL : LAt w cb (c + 1)) (hc : c < 20000) (hk : k ≤ 100) (hn : half n = true) :
    Calls Try.prog 45 #[.pointer (some ⟨cb, 0, none⟩), .agg #[.int .i64 8, .int .i64 n, .bool b, .slice a1 l1 p1, .string t, .slice a2 l2 p2, .slice a3 l3 p3], .int .i64 (k : Int)] w fun e w' => e = .returned (.bool (decide (l1 = 0) && (!b && (decide (n = 0) && (decide (t.size = 0) && (decide (l2 = 0) && (decide (l3 = 0)))))))) ∧ w' = rtW w cb c 8 n b t (.slice a1 l1 p1) (.slice a2 l2 p2) (.slice a3 l3 p3) := by
  have hA := hL.alloc (.cells #[.int .i64 8, .int .i64 n, .bool b, .slice a1 l1 p1, .string t, .slice a2 l2 p2, .slice a3 l3 p3] 64)
  have x1 := hA.cell
  have x2 := hA.free
  have x3 := (hA.set c).cell
  have hb := rt_box c 8 n b t (.slice a1 l1 p1) (.slice a2 l2 p2) (.slice a3 l3 p3) hL
  have y0 := hb.k0
  have y1 := hb.k1
  have y2 := hb.k2
  have y3 := hb.k3
  have y4 := hb.k4
  have y5 := hb.k5
  have y6 := hb.k6
  unfold rtW at y0 y1 y2 y3 y4 y5 y6
  have HH := hide (fun (W : World) => rhalf_any n W)
  rw [hn] at HH
  have HTZ : Hid (decide (t.size = 0) = true ↔ t.toList = []) := by
    unfold Hid
    rw [decide_eq_true_eq, ByteArray.toList_eq, ← List.length_eq_zero_iff, Array.length_toList]
    rfl
  generalize decide (t.size = 0) = tz at *
  have e1 : ((c + 1 : Nat) : Int) - 1 = (c : Int) := by omega
  have e2 : ¬ ((c : Int) < 0) := by omega
  have e3 : ¬ ((100 : Int) < (k : Int)) := by omega
  clear hL hA hn hb
  by_cases h1 : l1 = 0
  · subst h1
    cases b
    · by_cases hn0 : n = 0
      · subst hn0
        cases tz
        · have ht : ¬ (t.toList = []) := fun e => by have := HTZ.out.2 e; cases this
          go_enter Try.func45, Try.ntmps45
          go_wp2_with (go_at_call 44; refine (HH.out _).mono ?_; rintro e7 w7 ⟨rfl, hw⟩; replace hw := hw.symm; subst hw)
          go_ret
          exact ⟨by simp, rfl⟩
        · have ht : t.toList = [] := HTZ.out.1 rfl
          by_cases h2 : l2 = 0
          · subst h2
            by_cases h3 : l3 = 0
            · subst h3
              go_enter Try.func45, Try.ntmps45
              go_wp2_with (go_at_call 44; refine (HH.out _).mono ?_; rintro e7 w7 ⟨rfl, hw⟩; replace hw := hw.symm; subst hw)
              go_ret
              exact ⟨by simp, rfl⟩
            · have z3 : (0 : Int) < (l3 : Int) := by omega
              have HN := hide h3
              clear h3
              go_enter Try.func45, Try.ntmps45
              go_wp2_with (go_at_call 44; refine (HH.out _).mono ?_; rintro e7 w7 ⟨rfl, hw⟩; replace hw := hw.symm; subst hw)
              go_ret
              exact ⟨by have h := HN.out; simp [h]; omega, rfl⟩
          · have z2 : (0 : Int) < (l2 : Int) := by omega
            have HN := hide h2
            clear h2
            go_enter Try.func45, Try.ntmps45
            go_wp2_with (go_at_call 44; refine (HH.out _).mono ?_; rintro e7 w7 ⟨rfl, hw⟩; replace hw := hw.symm; subst hw)
            go_ret
            exact ⟨by simp [HN.out], rfl⟩
      · have gn : (n == 0) = false := by rw [beq_eq_false_iff_ne]; exact hn0
        have HN := hide hn0
        clear hn0
        go_enter Try.func45, Try.ntmps45
        go_wp2_with (go_at_call 44; refine (HH.out _).mono ?_; rintro e7 w7 ⟨rfl, hw⟩; replace hw := hw.symm; subst hw)
        go_ret
        exact ⟨by simp [HN.out], rfl⟩
    · go_enter Try.func45, Try.ntmps45
      go_wp2_with (go_at_call 44; refine (HH.out _).mono ?_; rintro e7 w7 ⟨rfl, hw⟩; replace hw := hw.symm; subst hw)
      go_ret
      exact ⟨by simp, rfl⟩
  · have z1 : (0 : Int) < (l1 : Int) := by omega
    have HN := hide h1
    clear h1
    go_enter Try.func45, Try.ntmps45
    go_wp2_with (go_at_call 44; refine (HH.out _).mono ?_; rintro e7 w7 ⟨rfl, hw⟩; replace hw := hw.symm; subst hw)
    go_ret
    exact ⟨by simp [HN.out], rfl⟩

set_option maxRecDepth 100000 in
set_option maxHeartbeats 4000000 in
theorem right_no (w : World) (cb c k : Nat) (kk n : Int) (b : Bool) (t : ByteArray) (a1 a2 a3 : Option Addr) (l1 l2 l3 p1 p2 p3 : Nat) (hL : LAt w cb (c + 1)) (hc : c < 20000) (hk : k ≤ 100) (hn : half n = true) (hkk : ¬ (1 ≤ kk ∧ kk ≤ 9)) :
    Calls Try.prog 45 #[.pointer (some ⟨cb, 0, none⟩), .agg #[.int .i64 kk, .int .i64 n, .bool b, .slice a1 l1 p1, .string t, .slice a2 l2 p2, .slice a3 l3 p3], .int .i64 (k : Int)] w fun e w' => e = .returned (.bool false) ∧ w' = rtW w cb c kk n b t (.slice a1 l1 p1) (.slice a2 l2 p2) (.slice a3 l3 p3) := by
  have hA := hL.alloc (.cells #[.int .i64 kk, .int .i64 n, .bool b, .slice a1 l1 p1, .string t, .slice a2 l2 p2, .slice a3 l3 p3] 64)
  have x1 := hA.cell
  have x2 := hA.free
  have x3 := (hA.set c).cell
  have hb := rt_box c kk n b t (.slice a1 l1 p1) (.slice a2 l2 p2) (.slice a3 l3 p3) hL
  have y0 := hb.k0
  have y1 := hb.k1
  have y2 := hb.k2
  have y3 := hb.k3
  have y4 := hb.k4
  have y5 := hb.k5
  have y6 := hb.k6
  unfold rtW at y0 y1 y2 y3 y4 y5 y6
  have HH := hide (fun (W : World) => rhalf_any n W)
  rw [hn] at HH
  have e1 : ((c + 1 : Nat) : Int) - 1 = (c : Int) := by omega
  have e2 : ¬ ((c : Int) < 0) := by omega
  have e3 : ¬ ((100 : Int) < (k : Int)) := by omega
  have g1 : (kk == 1) = false := by rw [beq_eq_false_iff_ne]; omega
  have g2 : (kk == 2) = false := by rw [beq_eq_false_iff_ne]; omega
  have g3 : (kk == 3) = false := by rw [beq_eq_false_iff_ne]; omega
  have g4 : (kk == 4) = false := by rw [beq_eq_false_iff_ne]; omega
  have g5 : (kk == 5) = false := by rw [beq_eq_false_iff_ne]; omega
  have g6 : (kk == 6) = false := by rw [beq_eq_false_iff_ne]; omega
  have g7 : (kk == 7) = false := by rw [beq_eq_false_iff_ne]; omega
  have g8 : (kk == 8) = false := by rw [beq_eq_false_iff_ne]; omega
  have g9 : (kk == 9) = false := by rw [beq_eq_false_iff_ne]; omega
  clear hL hA hn hb hkk
  by_cases h1 : l1 = 0
  · subst h1
    go_enter Try.func45, Try.ntmps45
    go_wp2_with (go_at_call 44; refine (HH.out _).mono ?_; rintro e7 w7 ⟨rfl, hw⟩; replace hw := hw.symm; subst hw)
    go_ret
    exact ⟨by simp, rfl⟩
  · have z1 : (0 : Int) < (l1 : Int) := by omega
    clear h1
    go_enter Try.func45, Try.ntmps45
    go_wp2_with (go_at_call 44; refine (HH.out _).mono ?_; rintro e7 w7 ⟨rfl, hw⟩; replace hw := hw.symm; subst hw)
    go_ret
    exact ⟨by simp, rfl⟩

end Go.Proofs.Ytilcigjhogcjkaa
