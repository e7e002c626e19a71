/-
  What is proved here: tandemref10's right of lists and vectors that are wrong at their head.
-/
import Derived.Test.YtilcigjhogcjkaaRPRt2
namespace Go.Proofs.Ytilcigjhogcjkaa
open Go Go.RowKit

set_option maxRecDepth 100000 in
set_option maxHeartbeats 4000000 in
theorem right_6h (w : World) (cb c k : Nat) (n : Int) (b : Bool) (t : ByteArray) (l1 l2 l3 : Nat) (a1 a2 a3 : Option Addr) (p1 p2 p3 : Nat) (hL : LAt w cb (c + 1)) (hc : c < 20000) (hk : k ≤ 100) (hn : half n = true) (hw : ¬ (l1 = 0 ∧ b = false ∧ n = 0 ∧ t.size = 0)) :
    Calls Try.prog 45 #[.pointer (some ⟨cb, 0, none⟩), .agg #[.int .i64 6, .int .i64 n, .bool b, .slice a1 l1 p1, .string t, .slice a2 l2 p2, .slice a3 l3 p3], .int .i64 (k : Int)] w fun e w' => e = .returned (.bool false) ∧ w' = rtW w cb c 6 n b t (.slice a1 l1 p1) (.slice a2 l2 p2) (.slice a3 l3 p3) := by
  have hA := hL.alloc (.cells #[.int .i64 6, .int .i64 n, .bool b, .slice a1 l1 p1, .string t, .slice a2 l2 p2, .slice a3 l3 p3] 64)
  have x1 := hA.cell
  have x2 := hA.free
  have x3 := (hA.set c).cell
  have hb := rt_box c 6 n b t (.slice a1 l1 p1) (.slice a2 l2 p2) (.slice a3 l3 p3) hL
  have y0 := hb.k0
  have y1 := hb.k1
  have y2 := hb.k2
  have y3 := hb.k3
  have y4 := hb.k4
  have y5 := hb.k5
  have y6 := hb.k6
  unfold rtW at y0 y1 y2 y3 y4 y5 y6
  have HH := hide (fun (W : World) => rhalf_any n W)
  rw [hn] at HH
  have e1 : ((c + 1 : Nat) : Int) - 1 = (c : Int) := by omega
  have e2 : ¬ ((c : Int) < 0) := by omega
  have e3 : ¬ ((100 : Int) < (k : Int)) := by omega
  have HTZ : Hid (t.size = 0 ↔ t.toList = []) := by
    unfold Hid
    rw [ByteArray.toList_eq, ← List.length_eq_zero_iff, Array.length_toList]
    rfl
  clear hL hA hn hb
  by_cases h1 : l1 = 0
  · subst h1
    cases b
    · by_cases hn0 : n = 0
      · subst hn0
        have ht : ¬ (t.toList = []) := fun e => hw ⟨rfl, rfl, rfl, HTZ.out.2 e⟩
        clear hw
        go_enter Try.func45, Try.ntmps45
        go_wp2_with (go_at_call 44; refine (HH.out _).mono ?_; rintro e7 w7 ⟨rfl, hw⟩; replace hw := hw.symm; subst hw)
        go_ret
        exact ⟨rfl, rfl⟩
      · have gn : (n == 0) = false := by rw [beq_eq_false_iff_ne]; exact hn0
        have gn2 : (n != 0) = true := by rw [bne_iff_ne]; exact hn0
        clear hw hn0
        go_enter Try.func45, Try.ntmps45
        go_wp2_with (go_at_call 44; refine (HH.out _).mono ?_; rintro e7 w7 ⟨rfl, hw⟩; replace hw := hw.symm; subst hw)
        go_ret
        exact ⟨rfl, rfl⟩
    · clear hw
      go_enter Try.func45, Try.ntmps45
      go_wp2_with (go_at_call 44; refine (HH.out _).mono ?_; rintro e7 w7 ⟨rfl, hw⟩; replace hw := hw.symm; subst hw)
      go_ret
      exact ⟨rfl, rfl⟩
  · have z1 : (0 : Int) < (l1 : Int) := by omega
    clear hw h1
    go_enter Try.func45, Try.ntmps45
    go_wp2_with (go_at_call 44; refine (HH.out _).mono ?_; rintro e7 w7 ⟨rfl, hw⟩; replace hw := hw.symm; subst hw)
    go_ret
    exact ⟨rfl, rfl⟩

set_option maxRecDepth 100000 in
set_option maxHeartbeats 4000000 in
theorem right_7h (w : World) (cb c k : Nat) (n : Int) (b : Bool) (t : ByteArray) (l1 l2 l3 : Nat) (a1 a2 a3 : Option Addr) (p1 p2 p3 : Nat) (hL : LAt w cb (c + 1)) (hc : c < 20000) (hk : k ≤ 100) (hn : half n = true) (hw : ¬ (l1 = 0 ∧ b = false ∧ n = 0 ∧ t.size = 0)) :
    Calls Try.prog 45 #[.pointer (some ⟨cb, 0, none⟩), .agg #[.int .i64 7, .int .i64 n, .bool b, .slice a1 l1 p1, .string t, .slice a2 l2 p2, .slice a3 l3 p3], .int .i64 (k : Int)] w fun e w' => e = .returned (.bool false) ∧ w' = rtW w cb c 7 n b t (.slice a1 l1 p1) (.slice a2 l2 p2) (.slice a3 l3 p3) := by
  have hA := hL.alloc (.cells #[.int .i64 7, .int .i64 n, .bool b, .slice a1 l1 p1, .string t, .slice a2 l2 p2, .slice a3 l3 p3] 64)
  have x1 := hA.cell
  have x2 := hA.free
  have x3 := (hA.set c).cell
  have hb := rt_box c 7 n b t (.slice a1 l1 p1) (.slice a2 l2 p2) (.slice a3 l3 p3) hL
  have y0 := hb.k0
  have y1 := hb.k1
  have y2 := hb.k2
  have y3 := hb.k3
  have y4 := hb.k4
  have y5 := hb.k5
  have y6 := hb.k6
  unfold rtW at y0 y1 y2 y3 y4 y5 y6
  have HH := hide (fun (W : World) => rhalf_any n W)
  rw [hn] at HH
  have e1 : ((c + 1 : Nat) : Int) - 1 = (c : Int) := by omega
  have e2 : ¬ ((c : Int) < 0) := by omega
  have e3 : ¬ ((100 : Int) < (k : Int)) := by omega
  have HTZ : Hid (t.size = 0 ↔ t.toList = []) := by
    unfold Hid
    rw [ByteArray.toList_eq, ← List.length_eq_zero_iff, Array.length_toList]
    rfl
  clear hL hA hn hb
  by_cases h1 : l1 = 0
  · subst h1
    cases b
    · by_cases hn0 : n = 0
      · subst hn0
        have ht : ¬ (t.toList = []) := fun e => hw ⟨rfl, rfl, rfl, HTZ.out.2 e⟩
        clear hw
        go_enter Try.func45, Try.ntmps45
        go_wp2_with (go_at_call 44; refine (HH.out _).mono ?_; rintro e7 w7 ⟨rfl, hw⟩; replace hw := hw.symm; subst hw)
        go_ret
        exact ⟨rfl, rfl⟩
      · have gn : (n == 0) = false := by rw [beq_eq_false_iff_ne]; exact hn0
        have gn2 : (n != 0) = true := by rw [bne_iff_ne]; exact hn0
        clear hw hn0
        go_enter Try.func45, Try.ntmps45
        go_wp2_with (go_at_call 44; refine (HH.out _).mono ?_; rintro e7 w7 ⟨rfl, hw⟩; replace hw := hw.symm; subst hw)
        go_ret
        exact ⟨rfl, rfl⟩
    · clear hw
      go_enter Try.func45, Try.ntmps45
      go_wp2_with (go_at_call 44; refine (HH.out _).mono ?_; rintro e7 w7 ⟨rfl, hw⟩; replace hw := hw.symm; subst hw)
      go_ret
      exact ⟨rfl, rfl⟩
  · have z1 : (0 : Int) < (l1 : Int) := by omega
    clear hw h1
    go_enter Try.func45, Try.ntmps45
    go_wp2_with (go_at_call 44; refine (HH.out _).mono ?_; rintro e7 w7 ⟨rfl, hw⟩; replace hw := hw.symm; subst hw)
    go_ret
    exact ⟨rfl, rfl⟩

set_option maxRecDepth 100000 in
set_option maxHeartbeats 4000000 in
theorem right_7r (w : World) (cb c k : Nat) (t : ByteArray) (l2 l3 : Nat) (a1 a2 a3 : Option Addr) (p1 p2 p3 : Nat) (hL : LAt w cb (c + 1)) (hc : c < 20000) (hk : k ≤ 100) (ht : t.toList = []) (h3 : 0 < l3) :
    Calls Try.prog 45 #[.pointer (some ⟨cb, 0, none⟩), .agg #[.int .i64 7, .int .i64 0, .bool false, .slice a1 0 p1, .string t, .slice a2 l2 p2, .slice a3 l3 p3], .int .i64 (k : Int)] w fun e w' => e = .returned (.bool false) ∧ w' = rtW w cb c 7 0 false t (.slice a1 0 p1) (.slice a2 l2 p2) (.slice a3 l3 p3) := by
  have hA := hL.alloc (.cells #[.int .i64 7, .int .i64 0, .bool false, .slice a1 0 p1, .string t, .slice a2 l2 p2, .slice a3 l3 p3] 64)
  have x1 := hA.cell
  have x2 := hA.free
  have x3 := (hA.set c).cell
  have hb := rt_box c 7 0 false t (.slice a1 0 p1) (.slice a2 l2 p2) (.slice a3 l3 p3) hL
  have y0 := hb.k0
  have y1 := hb.k1
  have y2 := hb.k2
  have y3 := hb.k3
  have y4 := hb.k4
  have y5 := hb.k5
  have y6 := hb.k6
  unfold rtW at y0 y1 y2 y3 y4 y5 y6
  have HH := hide (fun (W : World) => rhalf_any 0 W)
  rw [show half 0 = true from rfl] at HH
  have e1 : ((c + 1 : Nat) : Int) - 1 = (c : Int) := by omega
  have e2 : ¬ ((c : Int) < 0) := by omega
  have e3 : ¬ ((100 : Int) < (k : Int)) := by omega
  have z3 : (0 : Int) < (l3 : Int) := by omega
  clear h3
  clear hL hA hb
  go_enter Try.func45, Try.ntmps45
  go_wp2_with (go_at_call 44; refine (HH.out _).mono ?_; rintro e7 w7 ⟨rfl, hw⟩; replace hw := hw.symm; subst hw)
  go_ret
  exact ⟨rfl, rfl⟩

set_option maxRecDepth 100000 in
set_option maxHeartbeats 4000000 in
theorem right_6e (w : World) (cb c k : Nat) (t : ByteArray) (l3 : Nat) (a1 a2 a3 : Option Addr) (p1 p2 p3 : Nat) (hL : LAt w cb (c + 1)) (hc : c < 20000) (hk : k ≤ 100) (ht : t.toList = []) (h3 : 0 < l3) :
    Calls Try.prog 45 #[.pointer (some ⟨cb, 0, none⟩), .agg #[.int .i64 6, .int .i64 0, .bool false, .slice a1 0 p1, .string t, .slice a2 0 p2, .slice a3 l3 p3], .int .i64 (k : Int)] w fun e w' => e = .returned (.bool false) ∧ w' = rtW w cb c 6 0 false t (.slice a1 0 p1) (.slice a2 0 p2) (.slice a3 l3 p3) := by
  have hA := hL.alloc (.cells #[.int .i64 6, .int .i64 0, .bool false, .slice a1 0 p1, .string t, .slice a2 0 p2, .slice a3 l3 p3] 64)
  have x1 := hA.cell
  have x2 := hA.free
  have x3 := (hA.set c).cell
  have hb := rt_box c 6 0 false t (.slice a1 0 p1) (.slice a2 0 p2) (.slice a3 l3 p3) hL
  have y0 := hb.k0
  have y1 := hb.k1
  have y2 := hb.k2
  have y3 := hb.k3
  have y4 := hb.k4
  have y5 := hb.k5
  have y6 := hb.k6
  unfold rtW at y0 y1 y2 y3 y4 y5 y6
  have HH := hide (fun (W : World) => rhalf_any 0 W)
  rw [show half 0 = true from rfl] at HH
  have e1 : ((c + 1 : Nat) : Int) - 1 = (c : Int) := by omega
  have e2 : ¬ ((c : Int) < 0) := by omega
  have e3 : ¬ ((100 : Int) < (k : Int)) := by omega
  have z3 : (0 : Int) < (l3 : Int) := by omega
  clear h3
  clear hL hA hb
  go_enter Try.func45, Try.ntmps45
  go_wp2_with (go_at_call 44; refine (HH.out _).mono ?_; rintro e7 w7 ⟨rfl, hw⟩; replace hw := hw.symm; subst hw)
  go_ret
  exact ⟨rfl, rfl⟩

set_option maxRecDepth 100000 in
set_option maxHeartbeats 4000000 in
theorem right_6m (w : World) (cb c k : Nat) (t : ByteArray) (l2 l3 : Nat) (a1 a2 a3 : Option Addr) (p1 p2 p3 : Nat) (hL : LAt w cb (c + 1)) (hc : c < 20000) (hk : k ≤ 100) (ht : t.toList = []) (h2 : 0 < l2) (h3 : 1 < l3) :
    Calls Try.prog 45 #[.pointer (some ⟨cb, 0, none⟩), .agg #[.int .i64 6, .int .i64 0, .bool false, .slice a1 0 p1, .string t, .slice a2 l2 p2, .slice a3 l3 p3], .int .i64 (k : Int)] w fun e w' => e = .returned (.bool false) ∧ w' = rtW w cb c 6 0 false t (.slice a1 0 p1) (.slice a2 l2 p2) (.slice a3 l3 p3) := by
  have hA := hL.alloc (.cells #[.int .i64 6, .int .i64 0, .bool false, .slice a1 0 p1, .string t, .slice a2 l2 p2, .slice a3 l3 p3] 64)
  have x1 := hA.cell
  have x2 := hA.free
  have x3 := (hA.set c).cell
  have hb := rt_box c 6 0 false t (.slice a1 0 p1) (.slice a2 l2 p2) (.slice a3 l3 p3) hL
  have y0 := hb.k0
  have y1 := hb.k1
  have y2 := hb.k2
  have y3 := hb.k3
  have y4 := hb.k4
  have y5 := hb.k5
  have y6 := hb.k6
  unfold rtW at y0 y1 y2 y3 y4 y5 y6
  have HH := hide (fun (W : World) => rhalf_any 0 W)
  rw [show half 0 = true from rfl] at HH
  have e1 : ((c + 1 : Nat) : Int) - 1 = (c : Int) := by omega
  have e2 : ¬ ((c : Int) < 0) := by omega
  have e3 : ¬ ((100 : Int) < (k : Int)) := by omega
  have z2 : (0 : Int) < (l2 : Int) := by omega
  have z3 : (0 : Int) < (l3 : Int) := by omega
  have g3 : ((l3 : Int) == 1) = false := by rw [beq_eq_false_iff_ne]; omega
  have g4 : ((l3 : Int) != 1) = true := by rw [bne_iff_ne]; omega
  clear h2 h3
  clear hL hA hb
  go_enter Try.func45, Try.ntmps45
  go_wp2_with (go_at_call 44; refine (HH.out _).mono ?_; rintro e7 w7 ⟨rfl, hw⟩; replace hw := hw.symm; subst hw)
  go_ret
  exact ⟨rfl, rfl⟩

set_option maxRecDepth 100000 in
set_option maxHeartbeats 4000000 in
theorem right_6l (w : World) (cb c k : Nat) (t : ByteArray) (l2 g off : Nat) (a1 a2 : Option Addr) (p1 p2 p3 : Nat) (hL : LAt w cb (c + 1)) (hc : c < 20000) (hk : k ≤ 100) (ht : t.toList = []) (h2 : 0 < l2) (he : w.cell? ⟨g, off, none⟩ = some (.int .i64 6)) (hg : g ≠ cb) :
    Calls Try.prog 45 #[.pointer (some ⟨cb, 0, none⟩), .agg #[.int .i64 6, .int .i64 0, .bool false, .slice a1 0 p1, .string t, .slice a2 l2 p2, .slice (some ⟨g, off, none⟩) 1 p3], .int .i64 (k : Int)] w fun e w' => e = .returned (.bool false) ∧ w' = rtW w cb c 6 0 false t (.slice a1 0 p1) (.slice a2 l2 p2) (.slice (some ⟨g, off, none⟩) 1 p3) := by
  have hA := hL.alloc (.cells #[.int .i64 6, .int .i64 0, .bool false, .slice a1 0 p1, .string t, .slice a2 l2 p2, .slice (some ⟨g, off, none⟩) 1 p3] 64)
  have x1 := hA.cell
  have x2 := hA.free
  have x3 := (hA.set c).cell
  have hb := rt_box c 6 0 false t (.slice a1 0 p1) (.slice a2 l2 p2) (.slice (some ⟨g, off, none⟩) 1 p3) hL
  have y0 := hb.k0
  have y1 := hb.k1
  have y2 := hb.k2
  have y3 := hb.k3
  have y4 := hb.k4
  have y5 := hb.k5
  have y6 := hb.k6
  unfold rtW at y0 y1 y2 y3 y4 y5 y6
  have HH := hide (fun (W : World) => rhalf_any 0 W)
  rw [show half 0 = true from rfl] at HH
  have e1 : ((c + 1 : Nat) : Int) - 1 = (c : Int) := by omega
  have e2 : ¬ ((c : Int) < 0) := by omega
  have e3 : ¬ ((100 : Int) < (k : Int)) := by omega
  have z2 : (0 : Int) < (l2 : Int) := by omega
  have ye := (World.cell?_of_block ((rt_fr w cb c 6 0 false t (.slice a1 0 p1) (.slice a2 l2 p2) (.slice (some ⟨g, off, none⟩) 1 p3)).block g (World.block_lt_of_cell? w _ he) hg)).trans he
  unfold rtW at ye
  clear hL hA hb h2 he
  go_enter Try.func45, Try.ntmps45
  go_wp2_with (go_at_call 44; refine (HH.out _).mono ?_; rintro e7 w7 ⟨rfl, hw⟩; replace hw := hw.symm; subst hw)
  go_ret
  exact ⟨rfl, rfl⟩

end Go.Proofs.Ytilcigjhogcjkaa
