/-
  What is proved here: plain facts on multiplying digit by digit to the base 65536; no walk.
-/
import Derived.Test.YtdiacbfdfoeemaaDoorRefMath
namespace Go.Proofs.YtdiacbfdfoeemaaDoor

/-- Behind k digits: the row from 'off' on holds f's digits and x times h's, but for the carry c. -/
def TimesB (f h : Nat → Nat) (x off n k : Nat) (f' : Nat → Nat) (c : Nat) : Prop :=
  c < 65536 ∧ (∀ i, ¬ (off ≤ i ∧ i < off + k) → f' i = f i) ∧ (∀ i, i < n → f' (off + i) < 65536) ∧
  num 65536 (fun i => f' (off + i)) k + c * 65536 ^ k = num 65536 (fun i => f (off + i)) k + x * num 65536 h k

theorem TimesB.start {f h : Nat → Nat} {x off n : Nat} (hf : ∀ i, i < n → f (off + i) < 65536) : TimesB f h x off n 0 f 0 :=
  ⟨by omega, fun _ _ => rfl, hf, by simp [num]⟩

theorem timesB_small {x y z c : Nat} (hx : x < 65536) (hy : y < 65536) (hz : z < 65536) (hc : c < 65536) : z + x * y + c < 4294967296 := by
  have : x * y ≤ 65535 * 65535 := Nat.mul_le_mul (by omega) (by omega)
  omega

theorem TimesB.step {f h f' : Nat → Nat} {x off n k c y z : Nat} (r : TimesB f h x off n k f' c) (_hk : k < n) (hx : x < 65536) (hz : f' (off + k) = z) (hy : h k = y) (hyl : y < 65536) :
    TimesB f h x off n (k + 1) (upd f' (off + k) ((z + x * y + c) % 65536)) ((z + x * y + c) / 65536) := by
  obtain ⟨h1, h2, h3, h4⟩ := r
  have hzl : z < 65536 := by rw [← hz]; exact h3 k (by omega)
  have hs := timesB_small hx hyl hzl h1
  refine ⟨by omega, fun i hi => ?_, fun i hi => ?_, ?_⟩
  · rw [upd_other (by omega)]
    exact h2 i (by omega)
  · by_cases e : i = k
    · rw [e, upd_same]; exact Nat.mod_lt _ (by decide)
    · rw [upd_other (by omega)]; exact h3 i hi
  · rw [num_succ, num_succ, num_succ, upd_same]
    rw [num_congr (g := fun i => f' (off + i)) (fun i hi => upd_other (by omega))]
    have e1 : f (off + k) = z := by rw [← hz]; exact (h2 _ (by omega)).symm
    rw [e1, hy, Nat.pow_succ]
    generalize 65536 ^ k = P at *
    generalize hS : z + x * y + c = S at *
    have e2 : S % 65536 * P + S / 65536 * (P * 65536) = S * P := by
      rw [Nat.mul_comm P, ← Nat.mul_assoc, ← Nat.add_mul, Nat.mul_comm _ 65536, Nat.mod_add_div]
    have e4 : S * P = z * P + x * y * P + c * P := by rw [← hS, Nat.add_mul, Nat.add_mul]
    have e3 : x * (num 65536 h k + y * P) = x * num 65536 h k + x * y * P := by
      rw [Nat.mul_add, ← Nat.mul_assoc]
    rw [e3]
    omega

theorem timesB_row {f h f' : Nat → Nat} {x i N n A b : Nat} (r : TimesB f h x i n n f' A) (hN : i + n + 1 ≤ N) (hz : ∀ j, i + n ≤ j → f j = 0) (hb : num 65536 f N = b) :
    num 65536 (upd f' (i + n) A) N = b + x * num 65536 h n * 65536 ^ i ∧ (∀ j, i + n + 1 ≤ j → upd f' (i + n) A j = 0) := by
  obtain ⟨h1, h2, h3, h4⟩ := r
  have hz' : ∀ j, i + n + 1 ≤ j → upd f' (i + n) A j = 0 := fun j hj => by
    rw [upd_other (by omega), h2 j (by omega)]
    exact hz j (by omega)
  refine ⟨?_, hz'⟩
  rw [num_tail (n := i + n + 1) hN (fun j hj _ => hz' j hj), num_succ, upd_same, num_split]
  rw [num_tail (n := i + n) (by omega) (fun j hj _ => hz j hj), num_split] at hb
  rw [num_congr (g := f) (n := i) (fun j hj => by rw [upd_other (by omega)]; exact h2 j (by omega))]
  rw [num_congr (f := fun j => upd f' (i + n) A (i + j)) (g := fun j => f' (i + j)) (n := n) (fun j hj => upd_other (by omega))]
  rw [← hb, Nat.pow_add]
  have e : 65536 ^ i * (num 65536 (fun j => f' (i + j)) n + A * 65536 ^ n) = 65536 ^ i * (num 65536 (fun j => f (i + j)) n + x * num 65536 h n) := by rw [h4]
  rw [Nat.mul_add, Nat.mul_add] at e
  have e2 : A * (65536 ^ i * 65536 ^ n) = 65536 ^ i * (A * 65536 ^ n) := by
    rw [← Nat.mul_assoc, Nat.mul_comm A, Nat.mul_assoc]
  have e3 : x * num 65536 h n * 65536 ^ i = 65536 ^ i * (x * num 65536 h n) := Nat.mul_comm _ _
  rw [e2, e3]
  omega

end Go.Proofs.YtdiacbfdfoeemaaDoor
