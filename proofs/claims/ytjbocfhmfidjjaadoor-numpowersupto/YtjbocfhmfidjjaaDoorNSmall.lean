/-
  What is proved here: num.Small tells a number as an int64, where it is from -2^61 to 2^61 - 1.
-/
import Derived.Test.YtjbocfhmfidjjaaDoorNReg
import Derived.BigQuiet
namespace Go.Proofs.YtjbocfhmfidjjaaDoor
open Go Go.RowKit

theorem up_drewN (w : World) (n : Nat) : Up w (w.drewN n) := ⟨rfl, rfl, rfl, Nat.le_refl _, fun _ _ => rfl⟩

set_option maxRecDepth 4000 in
set_option maxHeartbeats 1000000 in
theorem word_any (v : Value) (n : Nat) (f : Nat → Nat) (w : World) (hv : Sl .u32 w v n f) (hf : ∀ i, i < n → f i < 4294967296) :
    Calls Tryd.prog 57 #[v] w fun e w' => e = .returned (.tuple #[.int .u64 (if n ≤ 2 then (num 4294967296 f n : Int) else 0), .bool (decide (n ≤ 2))]) ∧ Up w w' := by
  obtain ⟨ao, cap, rfl, h1, h2, h0, h3⟩ := hv
  rcases h3 with rfl | ⟨bl, off, rfl, hc⟩
  · go_enter Tryd.func57, Tryd.ntmps57
    go_wp2_with fail
    go_ret2
    exact ⟨by simp [num], Up.refl _⟩
  · match n, hc, hf, h1 with
    | 0, hc, hf, h1 =>
      go_enter Tryd.func57, Tryd.ntmps57
      go_wp2_with fail
      go_ret2
      exact ⟨by simp [num], Up.refl _⟩
    | 1, hc, hf, h1 =>
      have x0 := hc 0 (by decide)
      have y0 := hf 0 (by decide)
      rw [Nat.add_zero] at x0
      generalize hz : f 0 = z at *
      have HZ := hide hz
      clear hz hc hf
      go_enter Tryd.func57, Tryd.ntmps57
      go_wp2_with fail
      go_ret2
      exact ⟨by simp [num, unhide HZ], Up.refl _⟩
    | 2, hc, hf, h1 =>
      have x0 := hc 0 (by decide)
      have y0 := hf 0 (by decide)
      have x1 := hc 1 (by decide)
      have y1 := hf 1 (by decide)
      rw [Nat.add_zero] at x0
      generalize hz : f 0 = z at *
      generalize hz1 : f 1 = z1 at *
      have HZ := hide (And.intro hz hz1)
      have ho := head_or z1 z y1 y0
      clear hz hz1 hc hf
      go_enter Tryd.func57, Tryd.ntmps57
      go_wp2_with fail
      go_quiet (fail)
      go_wp2_with fail
      go_ret2
      refine ⟨?_, up_drewN _ _⟩
      have hn : num 4294967296 f 2 = z1 * 4294967296 + z := by simp [num, (unhide HZ).1, (unhide HZ).2]; omega
      simp [hn]
    | n + 3, hc, hf, h1 =>
      have e0 : ((n : Int) + 3 == 0) = false := by simp; omega
      have e1 : ((n : Int) + 3 == 1) = false := by simp; omega
      have e2 : ((n : Int) + 3 == 2) = false := by simp; omega
      clear hc hf
      go_enter Tryd.func57, Tryd.ntmps57
      go_wp2_with fail
      go_ret2
      exact ⟨by simp, Up.refl _⟩

theorem num_big {f : Nat → Nat} {n : Nat} (h : Can 4294967296 f n) (hn : ¬ n ≤ 2) : 18446744073709551616 ≤ num 4294967296 f n := by
  have h1 := num_ge (B := 4294967296) (f := f) (n := n) (by omega) (by rcases h.2 with h | h; omega; exact h)
  have h2 : 4294967296 ^ 2 ≤ 4294967296 ^ (n - 1) := Nat.pow_le_pow_right (by decide) (by omega)
  have h3 : (4294967296 : Nat) ^ 2 = 18446744073709551616 := by decide
  omega

/-- What num.Small answers. -/
def smallV (X : Int) : Int := if -2305843009213693952 ≤ X ∧ X < 2305843009213693952 then X else 0
def smallB (X : Int) : Bool := decide (-2305843009213693952 ≤ X ∧ X < 2305843009213693952)
theorem small_in {X : Int} (h : -2305843009213693952 ≤ X ∧ X < 2305843009213693952) : smallV X = X ∧ smallB X = true := ⟨if_pos h, decide_eq_true h⟩
theorem small_out {X : Int} (h : ¬ (-2305843009213693952 ≤ X ∧ X < 2305843009213693952)) : smallV X = 0 ∧ smallB X = false := ⟨if_neg h, decide_eq_false h⟩

set_option maxRecDepth 60000 in
set_option maxHeartbeats 1000000 in
theorem small_z (a : Value) (b : Bool) (n : Nat) (f : Nat → Nat) (X : Int) (w : World) (ha : Nm w a b n f) (hf : ∀ i, i < n → f i < 4294967296) (hX : sgn b (num 4294967296 f n) = X) :
    Calls Tryd.prog 23 #[a] w fun e w' => e = .returned (.tuple #[.int .i64 (smallV X), .bool (smallB X)]) ∧ Up w w' := by
  obtain ⟨v, rfl, hv⟩ := ha
  obtain ⟨ao, cap, rfl, -⟩ := id hv
  go_enter Tryd.func23, Tryd.ntmps23
  go_wp2_with fail
  refine (work_any _ b n f _ ⟨_, rfl, hv.up (up_alloc _ _)⟩ hf).mono ?_
  rintro e w1 ⟨a1, b1, m1, rfl, hw1, u1, c1, l1, s1⟩
  obtain ⟨v1, rfl, sv1⟩ := hw1 w ⟨_, rfl, hv⟩
  obtain ⟨ao1, cap1, rfl, -⟩ := id sv1
  have U1 : Up w w1 := (up_alloc w _).tr u1
  have V1 := U1.tr (up_alloc w1 (.cells #[.slice ao1 m1 cap1, .bool b1] 51))
  have K1 : (w1.alloc (.cells #[.slice ao1 m1 cap1, .bool b1] 51)).heap[w1.heap.size]? = some (.cells #[.slice ao1 m1 cap1, .bool b1] 51 (0, 0)) := heap_alloc_new w1 _
  have SX : sgn b1 (num 4294967296 f m1) = X := s1.trans hX
  have HS := hide (And.intro SX (And.intro c1 (sv1.up V1)))
  clear hw1 s1 hX sv1 SX c1
  go_wp2_with fail
  refine (word_any _ m1 f _ (unhide HS).2.2 (unhide HS).2.1.1.1).mono ?_
  rintro e w2 ⟨rfl, u2⟩
  obtain ⟨x0, x1, -⟩ := cells2 (u2.blk K1)
  have U2 := V1.tr u2
  clear K1 V1 U1 u1 u2 hf
  by_cases hm : m1 ≤ 2
  · have hd : decide (m1 ≤ 2) = true := by simpa using hm
    rw [hd, if_pos hm]
    have SX := (unhide HS).1
    have c1 := (unhide HS).2.1
    obtain ⟨N, hN⟩ : ∃ N, N = num 4294967296 f m1 := ⟨_, rfl⟩
    have h64 : N < 18446744073709551616 := by
      have hlt := num_lt (B := 4294967296) (f := f) (n := m1) c1.1.1
      have hpw : 4294967296 ^ m1 ≤ 4294967296 ^ 2 := Nat.pow_le_pow_right (by decide) hm
      have h3 : (4294967296 : Nat) ^ 2 = 18446744073709551616 := by decide
      omega
    have HP := hide (fun e : b1 = true => num_pos c1.1 (c1.2 e))
    rw [← hN] at SX HP ⊢
    have HX := hide SX
    clear hm hd HS c1 hN SX
    cases b1
    · by_cases hN : N < 2305843009213693952
      · have HR := hide (show smallV X = (N : Int) ∧ smallB X = true from by
          have e : X = (N : Int) := (unhide HX).symm
          rw [e]
          exact small_in (by omega))
        have HW := hide (show wrap64 (N : Int) = N from by unfold wrap64; omega)
        have D1 : decide ((N : Int) < 2305843009213693952) = true := by simp; omega
        have D2 : decide ((N : Int) ≤ 2305843009213693952) = true := by simp; omega
        clear h64 hN
        go_wp2_with fail
        go_ret2
        refine ⟨?_, U2⟩
        rw [(unhide HR).1, (unhide HR).2]
        show Ending.returned (.tuple #[.int .i64 (wrap64 (N : Int)), .bool true]) = _
        rw [unhide HW]
      · by_cases hN2 : N ≤ 2305843009213693952
        · have HR := hide (show smallV X = 0 ∧ smallB X = false from by
            have e : X = (N : Int) := (unhide HX).symm
            rw [e]
            exact small_out (by omega))
          have D1 : decide ((N : Int) < 2305843009213693952) = false := by simp; omega
          have D2 : decide ((N : Int) ≤ 2305843009213693952) = true := by simp; omega
          clear h64 hN hN2
          go_wp2_with fail
          go_ret2
          refine ⟨?_, U2⟩
          rw [(unhide HR).1, (unhide HR).2]
          rfl
        · have HR := hide (show smallV X = 0 ∧ smallB X = false from by
            have e : X = (N : Int) := (unhide HX).symm
            rw [e]
            exact small_out (by omega))
          have D1 : decide ((N : Int) < 2305843009213693952) = false := by simp; omega
          have D2 : decide ((N : Int) ≤ 2305843009213693952) = false := by simp; omega
          clear h64 hN hN2
          go_wp2_with fail
          go_ret2
          refine ⟨?_, U2⟩
          rw [(unhide HR).1, (unhide HR).2]
          rfl
    · have hp := unhide HP rfl
      by_cases hN : N ≤ 2305843009213693952
      · by_cases hN2 : N < 2305843009213693952
        · have HR := hide (show smallV X = -(N : Int) ∧ smallB X = true from by
            have e : X = -(N : Int) := (unhide HX).symm
            rw [e]
            exact small_in (by omega))
          have HW := hide (show wrap64 (N : Int) = N from by unfold wrap64; omega)
          have HW2 := hide (show wrap64 (-(N : Int)) = -N from by unfold wrap64; omega)
          have D1 : decide ((N : Int) < 2305843009213693952) = true := by simp; omega
          have D2 : decide ((N : Int) ≤ 2305843009213693952) = true := by simp; omega
          clear h64 hN hN2 hp
          go_wp2_with fail
          go_ret2
          refine ⟨?_, U2⟩
          rw [(unhide HR).1, (unhide HR).2]
          first | (show Ending.returned (.tuple #[.int .i64 (wrap64 (-wrap64 (N : Int))), .bool true]) = _; rw [unhide HW, unhide HW2]) | (show Ending.returned (.tuple #[.int .i64 (wrap64 (-(N : Int))), .bool true]) = _; rw [unhide HW2])
        · have HR := hide (show smallV X = -(N : Int) ∧ smallB X = true from by
            have e : X = -(N : Int) := (unhide HX).symm
            rw [e]
            exact small_in (by omega))
          have HW := hide (show wrap64 (N : Int) = N from by unfold wrap64; omega)
          have HW2 := hide (show wrap64 (-(N : Int)) = -N from by unfold wrap64; omega)
          have D1 : decide ((N : Int) < 2305843009213693952) = false := by simp; omega
          have D2 : decide ((N : Int) ≤ 2305843009213693952) = true := by simp; omega
          clear h64 hN hN2 hp
          go_wp2_with fail
          go_ret2
          refine ⟨?_, U2⟩
          rw [(unhide HR).1, (unhide HR).2]
          first | (show Ending.returned (.tuple #[.int .i64 (wrap64 (-wrap64 (N : Int))), .bool true]) = _; rw [unhide HW, unhide HW2]) | (show Ending.returned (.tuple #[.int .i64 (wrap64 (-(N : Int))), .bool true]) = _; rw [unhide HW2])
      · have HR := hide (show smallV X = 0 ∧ smallB X = false from by
          have e : X = -(N : Int) := (unhide HX).symm
          rw [e]
          exact small_out (by omega))
        have D1 : decide ((N : Int) < 2305843009213693952) = false := by simp; omega
        have D2 : decide ((N : Int) ≤ 2305843009213693952) = false := by simp; omega
        clear h64 hN hp
        go_wp2_with fail
        go_ret2
        refine ⟨?_, U2⟩
        rw [(unhide HR).1, (unhide HR).2]
        rfl
  · have hd : decide (m1 ≤ 2) = false := by simpa using hm
    rw [hd, if_neg hm]
    have hb := num_big (unhide HS).2.1.1 hm
    have HX := hide (show smallV X = 0 ∧ smallB X = false from by
      have SX := (unhide HS).1
      refine small_out ?_
      rw [← SX]
      cases b1 <;> simp only [sgn] <;> simp <;> omega)
    clear hb hm HS hd
    go_wp2_with fail
    go_ret2
    refine ⟨?_, U2⟩
    rw [(unhide HX).1, (unhide HX).2]
    rfl

end Go.Proofs.YtjbocfhmfidjjaaDoor
