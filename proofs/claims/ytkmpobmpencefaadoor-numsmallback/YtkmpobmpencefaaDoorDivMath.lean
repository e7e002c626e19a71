/-
  What is proved here: plain facts on long division digit by digit, and on shifts; no walk.
-/
import Derived.Test.YtkmpobmpencefaaDoorMulMath
import Derived.Test.YtkmpobmpencefaaDoorDivLimb
namespace Go.Proofs.YtkmpobmpencefaaDoor

/-- Behind k digits: x times h's digits are taken from the row, but for what was borrowed (b) and carried (c). -/
def TakeRel (f h : Nat → Nat) (x off n k : Nat) (f' : Nat → Nat) (b c : Nat) : Prop :=
  b ≤ 1 ∧ c < 4294967296 ∧ (∀ i, ¬ (off ≤ i ∧ i < off + k) → f' i = f i) ∧ (∀ i, i < n → f' (off + i) < 4294967296) ∧
  num 4294967296 (fun i => f' (off + i)) k + x * num 4294967296 h k = num 4294967296 (fun i => f (off + i)) k + (b + c) * 4294967296 ^ k

theorem TakeRel.start {f h : Nat → Nat} {x off n : Nat} (hf : ∀ i, i < n → f (off + i) < 4294967296) : TakeRel f h x off n 0 f 0 0 :=
  ⟨by omega, by omega, fun _ _ => rfl, hf, by simp [num]⟩

theorem take_small {x y c : Nat} (hx : x < 4294967296) (hy : y < 4294967296) (hc : c < 4294967296) : c + y * x < 18446744073709551616 := by
  have : y * x ≤ 4294967295 * 4294967295 := Nat.mul_le_mul (by omega) (by omega)
  omega

theorem TakeRel.step {f h f' : Nat → Nat} {x off n k b c y z d b' : Nat} (r : TakeRel f h x off n k f' b c) (hx : x < 4294967296) (hz : f' (off + k) = z) (hy : h k = y) (hyl : y < 4294967296)
    (hd : d < 4294967296) (hb' : b' ≤ 1) (hs : d + (c + y * x) % 4294967296 + b = z + 4294967296 * b') :
    TakeRel f h x off n (k + 1) (upd f' (off + k) d) b' ((c + y * x) / 4294967296) := by
  obtain ⟨h1, h2, h3, h4, h5⟩ := r
  have hsm := take_small hx hyl h2
  refine ⟨hb', by omega, fun i hi => ?_, fun i hi => ?_, ?_⟩
  · rw [upd_other (by omega)]
    exact h3 i (by omega)
  · by_cases e : i = k
    · rw [e, upd_same]; exact hd
    · rw [upd_other (by omega)]; exact h4 i hi
  · rw [num_succ, num_succ, num_succ, upd_same]
    rw [num_congr (g := fun i => f' (off + i)) (fun i hi => upd_other (by omega))]
    have e1 : f (off + k) = z := by rw [← hz]; exact (h3 _ (by omega)).symm
    rw [e1, hy, Nat.pow_succ]
    generalize 4294967296 ^ k = P at *
    generalize hS : c + y * x = S at *
    have e2 : (d + S % 4294967296 + b) * P = (z + 4294967296 * b') * P := by rw [hs]
    rw [Nat.add_mul, Nat.add_mul, Nat.add_mul] at e2
    have e3 : S % 4294967296 * P + S / 4294967296 * (P * 4294967296) = S * P := by
      rw [Nat.mul_comm P, ← Nat.mul_assoc, ← Nat.add_mul, Nat.mul_comm _ 4294967296, Nat.mod_add_div]
    have e4 : S * P = c * P + y * x * P := by rw [← hS, Nat.add_mul]
    have e5 : x * (num 4294967296 h k + y * P) = x * num 4294967296 h k + y * x * P := by rw [Nat.mul_add, ← Nat.mul_assoc, Nat.mul_comm x y]
    have e6 : (b' + S / 4294967296) * (P * 4294967296) = 4294967296 * b' * P + S / 4294967296 * (P * 4294967296) := by
      rw [Nat.add_mul, Nat.mul_comm 4294967296 b', Nat.mul_assoc, Nat.mul_comm 4294967296 P]
    rw [Nat.add_mul] at h5
    rw [e5, e6]
    omega

/-- The last place takes what was carried. -/
theorem TakeRel.last {f h f' : Nat → Nat} {x off n b c z d b' : Nat} (r : TakeRel f h x off (n + 1) n f' b c) (hz : f' (off + n) = z)
    (hd : d < 4294967296) (hs : d + c + b = z + 4294967296 * b') :
    (∀ i, ¬ (off ≤ i ∧ i < off + (n + 1)) → upd f' (off + n) d i = f i) ∧ (∀ i, i < n + 1 → upd f' (off + n) d (off + i) < 4294967296) ∧
    num 4294967296 (fun i => upd f' (off + n) d (off + i)) (n + 1) + x * num 4294967296 h n = num 4294967296 (fun i => f (off + i)) (n + 1) + b' * 4294967296 ^ (n + 1) := by
  obtain ⟨h1, h2, h3, h4, h5⟩ := r
  refine ⟨fun i hi => ?_, fun i hi => ?_, ?_⟩
  · rw [upd_other (by omega)]
    exact h3 i (by omega)
  · by_cases e : i = n
    · rw [e, upd_same]; exact hd
    · rw [upd_other (by omega)]; exact h4 i hi
  · rw [num_succ, num_succ, upd_same]
    rw [num_congr (g := fun i => f' (off + i)) (fun i hi => upd_other (by omega))]
    have e1 : f (off + n) = z := by rw [← hz]; exact (h3 _ (by omega)).symm
    rw [e1, Nat.pow_succ]
    generalize 4294967296 ^ n = P at *
    have e2 : (d + c + b) * P = (z + 4294967296 * b') * P := by rw [hs]
    rw [Nat.add_mul, Nat.add_mul, Nat.add_mul] at e2
    have e3 : 4294967296 * b' * P = b' * (P * 4294967296) := by rw [Nat.mul_comm 4294967296 b', Nat.mul_assoc, Nat.mul_comm 4294967296 P]
    rw [Nat.add_mul] at h5
    omega

/-- The highest digits bound a number. -/
theorem num_hi2 (B : Nat) (h : Nat → Nat) (n : Nat) (hn : 2 ≤ n) : num B h n = num B h (n - 2) + B ^ (n - 2) * (h (n - 2) + h (n - 1) * B) := by
  have e : n = (n - 2) + 2 := by omega
  rw [show num B h n = num B h ((n - 2) + 2) from by rw [← e], num_split]
  simp only [num, Nat.pow_zero, Nat.mul_one, Nat.zero_add, Nat.add_zero]
  rw [show n - 2 + 1 = n - 1 from by omega]
  simp

/-- What is known of a guess by the highest limbs. U3: the dividend's three highest limbs, D2: the divisor's two highest; q is the quotient. -/
theorem guess_hi {q g U D U3 D2 P : Nat} (hU : U3 * P ≤ U) (hD : D < (D2 + 1) * P) (hq : U < (q + 1) * D) (hg : g * D2 ≤ U3) (hD2 : 4294967296 ≤ D2) (hqB : q < 4294967296) : g ≤ q + 1 := by
  apply Nat.le_of_not_lt
  intro hlt
  have h1 : (q + 2) * D2 ≤ g * D2 := Nat.mul_le_mul_right _ hlt
  have h2 : (q + 2) * D2 * P ≤ U := Nat.le_trans (Nat.mul_le_mul_right _ (Nat.le_trans h1 hg)) hU
  have h3 : (q + 1) * D ≤ (q + 1) * ((D2 + 1) * P) := Nat.mul_le_mul_left _ (Nat.le_of_lt hD)
  have h4 : (q + 2) * D2 * P < (q + 1) * ((D2 + 1) * P) := by omega
  rw [← Nat.mul_assoc] at h4
  have h5 := Nat.lt_of_mul_lt_mul_right h4
  have e1 : (q + 2) * D2 = q * D2 + 2 * D2 := by rw [Nat.add_mul]
  have e2 : (q + 1) * (D2 + 1) = q * D2 + q + (D2 + 1) := by rw [Nat.add_mul, Nat.mul_add, Nat.mul_one, Nat.one_mul]
  omega
theorem guess_lo {q U D U3 D2 P : Nat} (hU : U < (U3 + 1) * P) (hD : D2 * P ≤ D) (hq : q * D ≤ U) : q * D2 ≤ U3 := by
  have h1 : q * (D2 * P) ≤ q * D := Nat.mul_le_mul_left _ hD
  have h2 : q * D2 * P < (U3 + 1) * P := by rw [Nat.mul_assoc]; omega
  have h3 := Nat.lt_of_mul_lt_mul_right h2
  omega

end Go.Proofs.YtkmpobmpencefaaDoor
