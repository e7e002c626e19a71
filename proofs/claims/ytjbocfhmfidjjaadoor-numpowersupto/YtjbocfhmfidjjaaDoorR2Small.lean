/-
  What is proved here: the document's own Small (chapter 2), by values.
-/
import Derived.Test.YtjbocfhmfidjjaaDoorR2Sub
import Derived.Test.YtjbocfhmfidjjaaDoorNSmall
namespace Go.Proofs.YtjbocfhmfidjjaaDoor
open Go Go.RowKit

set_option maxRecDepth 60000 in
set_option maxHeartbeats 4000000 in
theorem r2small_rd {X : Int} {M : Nat} {w : World} {a : Value} (ha : RdD X M w a) (hM : 2 * M + 3 ≤ 10000000000) :
    Calls Tryd.prog 25 #[a] w fun e w' => e = .returned (.tuple #[.int .i64 (smallV X), .bool (smallB X)]) ∧ Up w w' := by
  obtain ⟨b0, ao0, n0, cap0, rfl⟩ := ha.agg
  have U0 := up_alloc w (.cells #[.bool b0, .slice ao0 n0 cap0] 26)
  have K0 := hide (heap_alloc_new w (.cells #[.bool b0, .slice ao0 n0 cap0] 26))
  have HA := hide ha
  clear ha
  go_enter Tryd.func25, Tryd.ntmps25
  go_wp2_with fail
  refine (r2canon_rd ((unhide HA).up U0) (by omega)).mono ?_
  rintro e w1 ⟨v1, rfl, ⟨b, n, f, ⟨v, rfl, o⟩, c, l, s⟩, u1⟩
  obtain ⟨ao, cap, rfl, -⟩ := id o.sl
  obtain ⟨d0, d1, f0, f1, -⟩ := cells2 (Up.blk u1 (unhide K0))
  obtain ⟨t1, k1⟩ := sto_two (Up.blk u1 (unhide K0)) (.bool b) (.slice ao n cap)
  obtain ⟨c0, c1, -⟩ := cells2 k1
  have u2 : Up w _ := t1.up (U0.tr u1) (Nat.le_refl _)
  have hc := c.1
  have HC := hide (And.intro c s)
  clear c s
  by_cases hn : 2 < n
  · go_wp2_with fail
    go_ret2
    refine ⟨?_, u2⟩
    obtain ⟨c, s⟩ := unhide HC
    have hp : 18446744073709551616 ≤ num 4294967296 f n := by
      have h1 := num_ge (B := 4294967296) (f := f) (n := n) (by omega) (by rcases hc.2 with h | h; omega; exact h)
      have h2 : (4294967296 : Nat) ^ 2 ≤ 4294967296 ^ (n - 1) := Nat.pow_le_pow_right (by decide) (by omega)
      have h3 : (4294967296 : Nat) ^ 2 = 18446744073709551616 := by decide
      omega
    have ho : ¬ (-2305843009213693952 ≤ X ∧ X < 2305843009213693952) := by
      rw [← s]
      cases b <;> simp [sgn] <;> omega
    rw [(small_out ho).1, (small_out ho).2]
    rfl
  · by_cases hn0 : n = 0
    · subst hn0
      have hX : X = 0 := by
        rw [← (unhide HC).2]
        cases b <;> simp [sgn, num]
      have hb : b = false := by
        have := (unhide HC).1.2
        cases b <;> simp_all
      subst hX hb
      go_wp2_with fail
      refine wp_loop_rounds 1 ?_
      rw [rounds_succ]
      go_wp2_with fail
      go_ret2
      exact ⟨rfl, u2⟩
    · obtain ⟨h0, -⟩ | ⟨g, cap', e, hg, -, row⟩ := o.1
      · cases h0
        omega
      cases e
      have row2 := row.block (t1.block g (by simp at hg; omega))
      have r0 := row2.cell (i := 0) (by omega)
      have q0 : f 0 < 4294967296 := hc.1 0 (by omega)
      by_cases hn1 : n = 1
      · subst hn1
        have HX : sgn b (f 0) = X := by
          rw [← (unhide HC).2]
          simp [num]
        replace HX := hide HX
        go_wp2_with fail
        refine wp_loop_rounds 2 ?_
        rw [rounds_succ]
        go_wp2_with fail
        generalize f 0 = N at *
        have h64 : N < 18446744073709551616 := by omega
        clear q0
        cases b
        · by_cases hN : N < 2305843009213693952
          · have HR := hide (show smallV X = (N : Int) ∧ smallB X = true from by
              have e : X = (N : Int) := (unhide HX).symm
              rw [e]
              exact small_in (by omega))
            have HW := hide (show wrap64 (N : Int) = N from by unfold wrap64; omega)
            have D1 : decide ((2305843009213693952 : Int) ≤ (N : Int)) = false := by simp; omega
            clear hN h64
            rw [rounds_succ]
            go_wp2_with fail
            go_ret2
            refine ⟨?_, u2⟩
            rw [(unhide HR).1, (unhide HR).2]
            show Ending.returned (.tuple #[.int .i64 (wrap64 (N : Int)), .bool true]) = _
            rw [unhide HW]
          · have HR := hide (show smallV X = 0 ∧ smallB X = false from by
              have e : X = (N : Int) := (unhide HX).symm
              rw [e]
              exact small_out (by omega))
            have D1 : decide ((2305843009213693952 : Int) ≤ (N : Int)) = true := by simp; omega
            clear hN h64
            rw [rounds_succ]
            go_wp2_with fail
            go_ret2
            refine ⟨?_, u2⟩
            rw [(unhide HR).1, (unhide HR).2]
            rfl
        · by_cases hN : N ≤ 2305843009213693952
          · have HR := hide (show smallV X = -(N : Int) ∧ smallB X = true from by
              have e : X = -(N : Int) := (unhide HX).symm
              rw [e]
              exact small_in (by omega))
            have HW := hide (show wrap64 (-(wrap64 (N : Int))) = -(N : Int) from by unfold wrap64; omega)
            have D1 : decide ((N : Int) ≤ 2305843009213693952) = true := by simp; omega
            clear hN h64
            rw [rounds_succ]
            go_wp2_with fail
            go_ret2
            refine ⟨?_, u2⟩
            rw [(unhide HR).1, (unhide HR).2]
            show Ending.returned (.tuple #[.int .i64 (wrap64 (-(wrap64 (N : Int)))), .bool true]) = _
            rw [unhide HW]
          · have HR := hide (show smallV X = 0 ∧ smallB X = false from by
              have e : X = -(N : Int) := (unhide HX).symm
              rw [e]
              exact small_out (by omega))
            have D1 : decide ((N : Int) ≤ 2305843009213693952) = false := by simp; omega
            clear hN h64
            rw [rounds_succ]
            go_wp2_with fail
            go_ret2
            refine ⟨?_, u2⟩
            rw [(unhide HR).1, (unhide HR).2]
            rfl
      · obtain rfl : n = 2 := by omega
        have r1 := row2.cell (i := 1) (by omega)
        have q1 : f 1 < 4294967296 := hc.1 1 (by omega)
        have HX : sgn b (f 0 + f 1 * 4294967296) = X := by
          rw [← (unhide HC).2]
          simp [num]
        replace HX := hide HX
        go_wp2_with fail
        refine wp_loop_rounds 3 ?_
        rw [rounds_succ]
        go_wp2_with fail
        rw [rounds_succ]
        go_wp2_with fail
        obtain ⟨N, eN⟩ : ∃ N, N = f 0 + f 1 * 4294967296 := ⟨_, rfl⟩
        have h64 : N < 18446744073709551616 := by omega
        have eZ : ((f 1 : Nat) : Int) * 4294967296 + ((f 0 : Nat) : Int) = (N : Int) := by omega
        rw [← eN] at HX
        simp only [eZ]
        clear q0 q1 eZ eN
        cases b
        · by_cases hN : N < 2305843009213693952
          · have HR := hide (show smallV X = (N : Int) ∧ smallB X = true from by
              have e : X = (N : Int) := (unhide HX).symm
              rw [e]
              exact small_in (by omega))
            have HW := hide (show wrap64 (N : Int) = N from by unfold wrap64; omega)
            have D1 : decide ((2305843009213693952 : Int) ≤ (N : Int)) = false := by simp; omega
            clear hN h64
            rw [rounds_succ]
            go_wp2_with fail
            go_ret2
            refine ⟨?_, u2⟩
            rw [(unhide HR).1, (unhide HR).2]
            show Ending.returned (.tuple #[.int .i64 (wrap64 (N : Int)), .bool true]) = _
            rw [unhide HW]
          · have HR := hide (show smallV X = 0 ∧ smallB X = false from by
              have e : X = (N : Int) := (unhide HX).symm
              rw [e]
              exact small_out (by omega))
            have D1 : decide ((2305843009213693952 : Int) ≤ (N : Int)) = true := by simp; omega
            clear hN h64
            rw [rounds_succ]
            go_wp2_with fail
            go_ret2
            refine ⟨?_, u2⟩
            rw [(unhide HR).1, (unhide HR).2]
            rfl
        · by_cases hN : N ≤ 2305843009213693952
          · have HR := hide (show smallV X = -(N : Int) ∧ smallB X = true from by
              have e : X = -(N : Int) := (unhide HX).symm
              rw [e]
              exact small_in (by omega))
            have HW := hide (show wrap64 (-(wrap64 (N : Int))) = -(N : Int) from by unfold wrap64; omega)
            have D1 : decide ((N : Int) ≤ 2305843009213693952) = true := by simp; omega
            clear hN h64
            rw [rounds_succ]
            go_wp2_with fail
            go_ret2
            refine ⟨?_, u2⟩
            rw [(unhide HR).1, (unhide HR).2]
            show Ending.returned (.tuple #[.int .i64 (wrap64 (-(wrap64 (N : Int)))), .bool true]) = _
            rw [unhide HW]
          · have HR := hide (show smallV X = 0 ∧ smallB X = false from by
              have e : X = -(N : Int) := (unhide HX).symm
              rw [e]
              exact small_out (by omega))
            have D1 : decide ((N : Int) ≤ 2305843009213693952) = false := by simp; omega
            clear hN h64
            rw [rounds_succ]
            go_wp2_with fail
            go_ret2
            refine ⟨?_, u2⟩
            rw [(unhide HR).1, (unhide HR).2]
            rfl

end Go.Proofs.YtjbocfhmfidjjaaDoor
