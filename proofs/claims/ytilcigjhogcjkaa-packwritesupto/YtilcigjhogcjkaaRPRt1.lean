/-
  What is proved here: tandemref10's right where a number is too great, and of plain kinds.
-/
import Derived.Test.YtilcigjhogcjkaaRPRt0
namespace Go.Proofs.Ytilcigjhogcjkaa
open Go Go.RowKit

theorem rt_box {w : World} {cb c0 : Nat} (c : Nat) (kk n : Int) (b : Bool) (t : ByteArray) (um ui ur : Value) (hL : LAt w cb c0) : DBx (rtW w cb c kk n b t um ui ur) w.heap.size (.int .i64 kk) (.int .i64 n) (.bool b) um (.string t) ui ur := by
  have h := hL.lt
  have F : Fr (fun j => j = cb) (w.alloc (.cells #[.int .i64 kk, .int .i64 n, .bool b, um, .string t, ui, ur] 64)) (rtW w cb c kk n b t um ui ur) := Fr.setCell (S := fun j => j = cb) (Fr.refl _ _) (fun _ => rfl) _ _
  exact (F.block w.heap.size (by simp) (by omega)).trans (heap_alloc_new w _)
theorem rt_fr (w : World) (cb c : Nat) (kk n : Int) (b : Bool) (t : ByteArray) (um ui ur : Value) : Fr (fun j => j = cb) w (rtW w cb c kk n b t um ui ur) := Fr.setCell (S := fun j => j = cb) ((Fr.refl _ _).alloc _) (fun _ => rfl) _ _

set_option maxRecDepth 100000 in
set_option maxHeartbeats 2000000 in
theorem right_half (w : World) (cb c k : Nat) (kk n : Int) (b : Bool) (t : ByteArray) (um ui ur : Value) (hL : LAt w cb (c + 1)) (hc : c < 20000) (hk : k ≤ 100) (hn : half n = false) :
    Calls Try.prog 45 #[.pointer (some ⟨cb, 0, none⟩), .agg #[.int .i64 kk, .int .i64 n, .bool b, um, .string t, ui, ur], .int .i64 (k : Int)] w fun e w' => e = .returned (.bool false) ∧ Fr (fun j => j = cb) w w' := by
  have hA := hL.alloc (.cells #[.int .i64 kk, .int .i64 n, .bool b, um, .string t, ui, ur] 64)
  have x1 := hA.cell
  have x2 := hA.free
  have x3 := (hA.set c).cell
  have y1 := (rt_box c kk n b t um ui ur hL).k1
  unfold rtW at y1
  have HF := hide (rt_fr w cb c kk n b t um ui ur)
  have HH := hide (fun (W : World) => rhalf_any n W)
  rw [hn] at HH
  have e1 : ((c + 1 : Nat) : Int) - 1 = (c : Int) := by omega
  have e2 : ¬ ((c : Int) < 0) := by omega
  have e3 : ¬ ((100 : Int) < (k : Int)) := by omega
  clear hL hA hn
  go_enter Try.func45, Try.ntmps45
  go_wp2_with (go_at_call 44; refine (HH.out _).mono ?_; rintro e7 w7 ⟨rfl, hw⟩; replace hw := hw.symm; subst hw)
  go_ret
  exact ⟨rfl, HF.out⟩

set_option maxRecDepth 100000 in
set_option maxHeartbeats 4000000 in
theorem right_2 (w : World) (cb c k : Nat) (n : Int) (b : Bool) (t : ByteArray) (a1 a2 a3 : Option Addr) (l1 l2 l3 p1 p2 p3 : Nat) (hL : LAt w cb (c + 1)) (hc : c < 20000) (hk : k ≤ 100) (hn : half n = true) :
    Calls Try.prog 45 #[.pointer (some ⟨cb, 0, none⟩), .agg #[.int .i64 2, .int .i64 n, .bool b, .slice a1 l1 p1, .string t, .slice a2 l2 p2, .slice a3 l3 p3], .int .i64 (k : Int)] w fun e w' => e = .returned (.bool (decide (l1 = 0) && (!b && (decide (t.size = 0) && (decide (l2 = 0) && decide (l3 = 0)))))) ∧ w' = rtW w cb c 2 n b t (.slice a1 l1 p1) (.slice a2 l2 p2) (.slice a3 l3 p3) := by
  have hA := hL.alloc (.cells #[.int .i64 2, .int .i64 n, .bool b, .slice a1 l1 p1, .string t, .slice a2 l2 p2, .slice a3 l3 p3] 64)
  have x1 := hA.cell
  have x2 := hA.free
  have x3 := (hA.set c).cell
  have hb := rt_box c 2 n b t (.slice a1 l1 p1) (.slice a2 l2 p2) (.slice a3 l3 p3) hL
  have y0 := hb.k0
  have y1 := hb.k1
  have y2 := hb.k2
  have y3 := hb.k3
  have y4 := hb.k4
  have y5 := hb.k5
  have y6 := hb.k6
  unfold rtW at y0 y1 y2 y3 y4 y5 y6
  have HH := hide (fun (W : World) => rhalf_any n W)
  rw [hn] at HH
  have HTZ : Hid (decide (t.size = 0) = true ↔ t.toList = []) := by
    unfold Hid
    rw [decide_eq_true_eq, ByteArray.toList_eq, ← List.length_eq_zero_iff, Array.length_toList]
    rfl
  generalize decide (t.size = 0) = tz at *
  have e1 : ((c + 1 : Nat) : Int) - 1 = (c : Int) := by omega
  have e2 : ¬ ((c : Int) < 0) := by omega
  have e3 : ¬ ((100 : Int) < (k : Int)) := by omega
  clear hL hA hn hb
  by_cases h1 : l1 = 0
  · subst h1
    cases b
    · cases tz
      · have ht : ¬ (t.toList = []) := fun e => by have := HTZ.out.2 e; cases this
        go_enter Try.func45, Try.ntmps45
        go_wp2_with (go_at_call 44; refine (HH.out _).mono ?_; rintro e7 w7 ⟨rfl, hw⟩; replace hw := hw.symm; subst hw)
        go_ret
        exact ⟨by simp, rfl⟩
      · have ht : t.toList = [] := HTZ.out.1 rfl
        by_cases h2 : l2 = 0
        · subst h2
          by_cases h3 : l3 = 0
          · subst h3
            go_enter Try.func45, Try.ntmps45
            go_wp2_with (go_at_call 44; refine (HH.out _).mono ?_; rintro e7 w7 ⟨rfl, hw⟩; replace hw := hw.symm; subst hw)
            go_ret
            exact ⟨by simp, rfl⟩
          · have z3 : (0 : Int) < (l3 : Int) := by omega
            have HN := hide h3
            clear h3
            go_enter Try.func45, Try.ntmps45
            go_wp2_with (go_at_call 44; refine (HH.out _).mono ?_; rintro e7 w7 ⟨rfl, hw⟩; replace hw := hw.symm; subst hw)
            go_ret
            exact ⟨by have h := HN.out; simp [h]; omega, rfl⟩
        · have z2 : (0 : Int) < (l2 : Int) := by omega
          have HN := hide h2
          clear h2
          go_enter Try.func45, Try.ntmps45
          go_wp2_with (go_at_call 44; refine (HH.out _).mono ?_; rintro e7 w7 ⟨rfl, hw⟩; replace hw := hw.symm; subst hw)
          go_ret
          exact ⟨by simp [HN.out], rfl⟩
    · go_enter Try.func45, Try.ntmps45
      go_wp2_with (go_at_call 44; refine (HH.out _).mono ?_; rintro e7 w7 ⟨rfl, hw⟩; replace hw := hw.symm; subst hw)
      go_ret
      exact ⟨by simp, rfl⟩
  · have z1 : (0 : Int) < (l1 : Int) := by omega
    have HN := hide h1
    clear h1
    go_enter Try.func45, Try.ntmps45
    go_wp2_with (go_at_call 44; refine (HH.out _).mono ?_; rintro e7 w7 ⟨rfl, hw⟩; replace hw := hw.symm; subst hw)
    go_ret
    exact ⟨by simp [HN.out], rfl⟩

end Go.Proofs.Ytilcigjhogcjkaa
