/-
  What is proved here: plain facts on multiplying digit by digit; no walk.
-/
import Derived.Test.YtkmpobmpencefaaDoorAddMath
namespace Go.Proofs.YtkmpobmpencefaaDoor

/-- Behind k digits: the row from 'off' on holds f's digits and x times h's, but for the carry c. -/
def TimesRel (f h : Nat → Nat) (x off n k : Nat) (f' : Nat → Nat) (c : Nat) : Prop :=
  c < 4294967296 ∧ (∀ i, ¬ (off ≤ i ∧ i < off + k) → f' i = f i) ∧ (∀ i, i < n → f' (off + i) < 4294967296) ∧
  num 4294967296 (fun i => f' (off + i)) k + c * 4294967296 ^ k = num 4294967296 (fun i => f (off + i)) k + x * num 4294967296 h k

theorem TimesRel.start {f h : Nat → Nat} {x off n : Nat} (hf : ∀ i, i < n → f (off + i) < 4294967296) : TimesRel f h x off n 0 f 0 :=
  ⟨by omega, fun _ _ => rfl, hf, by simp [num]⟩

theorem times_small {x y z c : Nat} (hx : x < 4294967296) (hy : y < 4294967296) (hz : z < 4294967296) (hc : c < 4294967296) : c + (y * x + z) < 18446744073709551616 := by
  have : y * x ≤ 4294967295 * 4294967295 := Nat.mul_le_mul (by omega) (by omega)
  omega

theorem TimesRel.step {f h f' : Nat → Nat} {x off n k c y z : Nat} (r : TimesRel f h x off n k f' c) (_hk : k < n) (hx : x < 4294967296) (hz : f' (off + k) = z) (hy : h k = y) (hyl : y < 4294967296) :
    TimesRel f h x off n (k + 1) (upd f' (off + k) ((c + (y * x + z)) % 4294967296)) ((c + (y * x + z)) / 4294967296) := by
  obtain ⟨h1, h2, h3, h4⟩ := r
  have hzl : z < 4294967296 := by rw [← hz]; exact h3 k (by omega)
  have hs := times_small hx hyl hzl h1
  refine ⟨by omega, fun i hi => ?_, fun i hi => ?_, ?_⟩
  · rw [upd_other (by omega)]
    exact h2 i (by omega)
  · by_cases e : i = k
    · rw [e, upd_same]; exact Nat.mod_lt _ (by decide)
    · rw [upd_other (by omega)]; exact h3 i hi
  · rw [num_succ, num_succ, num_succ, upd_same]
    rw [num_congr (g := fun i => f' (off + i)) (fun i hi => upd_other (by omega))]
    have e1 : f (off + k) = z := by rw [← hz]; exact (h2 _ (by omega)).symm
    rw [e1, hy, Nat.pow_succ]
    generalize 4294967296 ^ k = P at *
    generalize hS : c + (y * x + z) = S at *
    have e2 : S % 4294967296 * P + S / 4294967296 * (P * 4294967296) = S * P := by
      rw [Nat.mul_comm P, ← Nat.mul_assoc, ← Nat.add_mul, Nat.mul_comm _ 4294967296, Nat.mod_add_div]
    rw [← hS, Nat.add_mul, Nat.add_mul] at e2
    have e3 : x * (num 4294967296 h k + y * P) = x * num 4294967296 h k + y * x * P := by
      rw [Nat.mul_add, ← Nat.mul_assoc, Nat.mul_comm x y]
    rw [e3]
    rw [hS] at e2
    omega

/-- One row of the schoolbook's product: the limb behind the row, which was 0, takes the carry. -/
theorem times_row {f h f' : Nat → Nat} {x i N n A b : Nat} (r : TimesRel f h x i n n f' A) (hN : i + n + 1 ≤ N) (hz : ∀ j, i + n ≤ j → f j = 0) (hb : num 4294967296 f N = b) :
    num 4294967296 (upd f' (i + n) A) N = b + x * num 4294967296 h n * 4294967296 ^ i ∧ (∀ j, i + n + 1 ≤ j → upd f' (i + n) A j = 0) := by
  obtain ⟨h1, h2, h3, h4⟩ := r
  have hz' : ∀ j, i + n + 1 ≤ j → upd f' (i + n) A j = 0 := fun j hj => by
    rw [upd_other (by omega), h2 j (by omega)]
    exact hz j (by omega)
  refine ⟨?_, hz'⟩
  rw [num_tail (n := i + n + 1) hN (fun j hj _ => hz' j hj), num_succ, upd_same, num_split]
  rw [num_tail (n := i + n) (by omega) (fun j hj _ => hz j hj), num_split] at hb
  rw [num_congr (g := f) (n := i) (fun j hj => by rw [upd_other (by omega)]; exact h2 j (by omega))]
  rw [num_congr (f := fun j => upd f' (i + n) A (i + j)) (g := fun j => f' (i + j)) (n := n) (fun j hj => upd_other (by omega))]
  rw [← hb, Nat.pow_add]
  have e : 4294967296 ^ i * (num 4294967296 (fun j => f' (i + j)) n + A * 4294967296 ^ n) = 4294967296 ^ i * (num 4294967296 (fun j => f (i + j)) n + x * num 4294967296 h n) := by rw [h4]
  rw [Nat.mul_add, Nat.mul_add] at e
  have e2 : A * (4294967296 ^ i * 4294967296 ^ n) = 4294967296 ^ i * (A * 4294967296 ^ n) := by
    rw [← Nat.mul_assoc, Nat.mul_comm A, Nat.mul_assoc]
  have e3 : x * num 4294967296 h n * 4294967296 ^ i = 4294967296 ^ i * (x * num 4294967296 h n) := Nat.mul_comm _ _
  rw [e2, e3]
  omega

end Go.Proofs.YtkmpobmpencefaaDoor
