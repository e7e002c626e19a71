/-
  What is proved here: nat.divideLong answers quotient and rest of two numbers, the divisor of two limbs or more.
-/
import Derived.Test.YtkmpobmpencefaaDoorLongMath
import Derived.Test.YtkmpobmpencefaaDoorShift
import Derived.Test.YtkmpobmpencefaaDoorLen
import Derived.Test.YtkmpobmpencefaaDoorAddInto
import Derived.Test.YtkmpobmpencefaaDoorUp0
namespace Go.Proofs.YtkmpobmpencefaaDoor
open Go Go.RowKit

set_option maxRecDepth 4000 in
set_option maxHeartbeats 400000 in
theorem leading_any (x : Nat) (w : World) (hx : x < 4294967296) (h0 : x ≠ 0) :
    Calls Tryd.prog 119 #[.int .u32 x] w fun e w' => e = .returned (.int .i64 (32 - bitLen x : Nat)) ∧ w' = w := by
  have hb := top_shift hx h0
  go_enter Tryd.func119, Tryd.ntmps119
  go_wp2_with (go_at_call 107; refine (len32_any x _ hx).mono ?_; rintro e w' ⟨rfl, rfl⟩)
  go_ret
  exact ⟨ret_len (by omega), rfl⟩

theorem RowAt.still {k : IntKind} {E : TypeId} {w w' : World} {g N n : Nat} {f : Nat → Nat} (h : RowAt k E w g N n f) (s : Still w w') : RowAt k E w' g N n f := h.block (by rw [s.heap])
theorem Still.below {B : Nat} {a w w' : World} (hb : Below B a w) (s : Still w w') : Below B a w' := hb.trans ⟨s.os, s.tape, s.output, by rw [s.heap]; exact Nat.le_refl _, fun k _ => by rw [s.heap]⟩

/-- One guess: the part's quotient, or 1 more. -/
theorem guess_part (g off N K g2 n cap cap2 : Nat) (f h : Nat → Nat) (w : World) (hr : RowAt .u32 64 w g N K f) (hoff : off + (n + 1) ≤ K) (hd : Rd .u32 w (some ⟨g2, 0, none⟩) n h) (hn : 2 ≤ n) (hnl : n ≤ 9000000000000000000)
    (hf : ∀ i, i < n + 1 → f (off + i) < 4294967296) (hh : ∀ i, i < n → h i < 4294967296) (htop : 2147483648 ≤ h (n - 1)) (hU : num 4294967296 (fun i => f (off + i)) (n + 1) < num 4294967296 h n * 4294967296) :
    Calls Tryd.prog 121 #[.slice (some ⟨g, off, none⟩) (n + 1) cap, .slice (some ⟨g2, 0, none⟩) n cap2] w fun e w' => ∃ gg : Nat, e = .returned (.int .u32 gg) ∧ Still w w' ∧ gg < 4294967296 ∧
      num 4294967296 (fun i => f (off + i)) (n + 1) / num 4294967296 h n ≤ gg ∧ gg ≤ num 4294967296 (fun i => f (off + i)) (n + 1) / num 4294967296 h n + 1 := by
  rcases hd with hd | ⟨b2, off2, e2, hc⟩
  · omega
  cases e2
  have hDpos : 0 < num 4294967296 h n := by
    have := num_ge (B := 4294967296) (f := h) (n := n) (by omega) (by omega)
    have : 0 < 4294967296 ^ (n - 1) := Nat.pos_of_ne_zero (by simp)
    omega
  have hqB : num 4294967296 (fun i => f (off + i)) (n + 1) / num 4294967296 h n < 4294967296 := by
    rw [Nat.div_lt_iff_lt_mul hDpos, Nat.mul_comm]
    exact hU
  have hq1 : num 4294967296 (fun i => f (off + i)) (n + 1) / num 4294967296 h n * num 4294967296 h n ≤ num 4294967296 (fun i => f (off + i)) (n + 1) := Nat.div_mul_le_self _ _
  have hq2 : num 4294967296 (fun i => f (off + i)) (n + 1) < (num 4294967296 (fun i => f (off + i)) (n + 1) / num 4294967296 h n + 1) * num 4294967296 h n := by
    have := Nat.lt_div_mul_add (a := num 4294967296 (fun i => f (off + i)) (n + 1)) hDpos
    rw [Nat.add_mul, Nat.one_mul]
    exact this
  -- the highest limbs
  have hD2 := num_hi2 4294967296 h n hn
  have hDlo := num_lt (B := 4294967296) (f := h) (n := n - 2) (fun i hi => hh i (by omega))
  have hU3 : num 4294967296 (fun i => f (off + i)) (n + 1) = num 4294967296 (fun i => f (off + i)) (n - 2) + 4294967296 ^ (n - 2) * ((f (off + n) * 4294967296 + f (off + (n - 1))) * 4294967296 + f (off + (n - 2))) := by
    rw [num_succ, num_hi2 4294967296 (fun i => f (off + i)) n hn]
    have e : (4294967296 : Nat) ^ n = 4294967296 ^ (n - 2) * (4294967296 * 4294967296) := by
      rw [show (4294967296 : Nat) * 4294967296 = 4294967296 ^ 2 from rfl, ← Nat.pow_add, show n - 2 + 2 = n from by omega]
    rw [e]
    generalize 4294967296 ^ (n - 2) = P
    generalize f (off + n) = x0
    generalize f (off + (n - 1)) = x1
    generalize f (off + (n - 2)) = x2
    have e2 : x0 * (P * (4294967296 * 4294967296)) = P * (x0 * 4294967296 * 4294967296) := by ac_rfl
    rw [e2, Nat.add_assoc, ← Nat.mul_add]
    congr 2
    omega
  have hUlo := num_lt (B := 4294967296) (f := fun i => f (off + i)) (n := n - 2) (fun i hi => hf i (by omega))
  have hPpos : 0 < 4294967296 ^ (n - 2) := Nat.pos_of_ne_zero (by simp)
  have c1 := hc (n - 1) (by omega)
  have c2 := hc (n - 2) (by omega)
  have c3 := hr.cell (i := off + n) (by omega)
  have c4 := hr.cell (i := off + (n - 1)) (by omega)
  have c5 := hr.cell (i := off + (n - 2)) (by omega)
  have b1 := hh (n - 1) (by omega)
  have b2 := hh (n - 2) (by omega)
  have b3 := hf n (by omega)
  have b4 := hf (n - 1) (by omega)
  have b5 := hf (n - 2) (by omega)
  generalize num 4294967296 (fun i => f (off + i)) (n + 1) = U at *
  generalize num 4294967296 h n = D at *
  generalize h (n - 1) = first at *
  generalize h (n - 2) = second at *
  generalize f (off + n) = x0 at *
  generalize f (off + (n - 1)) = x1 at *
  generalize f (off + (n - 2)) = x2 at *
  generalize num 4294967296 (fun i => f (off + i)) (n - 2) = ulo at *
  generalize num 4294967296 h (n - 2) = dlo at *
  generalize 4294967296 ^ (n - 2) = P at *
  obtain ⟨D2, hD2e⟩ : ∃ D2, D2 = first * 4294967296 + second := ⟨_, rfl⟩
  obtain ⟨U3, hU3e⟩ : ∃ U3, U3 = (x0 * 4294967296 + x1) * 4294967296 + x2 := ⟨_, rfl⟩
  have hDD : D = dlo + D2 * P := by rw [hD2, hD2e, Nat.mul_comm P, Nat.add_comm second]
  have hUU : U = ulo + U3 * P := by rw [hU3, hU3e, Nat.mul_comm P]
  have k1 : D < (D2 + 1) * P := by rw [succ_times]; omega
  have k2 : D2 * P ≤ D := by omega
  have k3 : U < (U3 + 1) * P := by rw [succ_times]; omega
  have k4 : U3 * P ≤ U := by omega
  have hql := guess_lo (q := U / D) k3 k2 hq1
  have hx0 : x0 ≤ first := top_le hD2e hU3e b2 (top_cut k1 k4 hU)
  have hbig : 4294967296 ≤ D2 := by omega
  refine (guess_core g off g2 0 n (n - 1) (n - 2) cap cap2 first second x0 x1 x2 (x0 * 4294967296 + x1) (U / D) w rfl (by omega) (by omega) hnl c1 c2 c3 c4 c5 b1 b2 b3 b4 b5 (by omega) (by rw [← hD2e, ← hU3e]; exact hql) hqB hx0).mono ?_
  rintro e w' ⟨gg, rfl, hs, g1, g2', g3⟩
  rw [← hD2e, ← hU3e] at g3
  exact ⟨gg, rfl, hs, g2', g1, guess_hi k4 k1 hq2 g3 hbig hqB⟩

end Go.Proofs.YtkmpobmpencefaaDoor
