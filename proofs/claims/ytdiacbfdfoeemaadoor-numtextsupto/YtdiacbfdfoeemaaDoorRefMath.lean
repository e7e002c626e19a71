/-
  What is proved here: plain facts on limbs of 32 and of 16 bits; no walk.
-/
import Derived.Test.YtdiacbfdfoeemaaDoorAdd
import Derived.Test.YtdiacbfdfoeemaaDoorParse
namespace Go.Proofs.YtdiacbfdfoeemaaDoor
open Go Go.RowKit

/-- The halves of limbs: the low one, then the high one. -/
def hv (f : Nat → Nat) : Nat → Nat := fun i => if i % 2 = 0 then f (i / 2) % 65536 else f (i / 2) / 65536
theorem hv_lo (f : Nat → Nat) (k : Nat) : hv f (2 * k) = f k % 65536 := by
  unfold hv; rw [if_pos (by omega), show 2 * k / 2 = k from by omega]
theorem hv_hi (f : Nat → Nat) (k : Nat) : hv f (2 * k + 1) = f k / 65536 := by
  unfold hv; rw [if_neg (by omega), show (2 * k + 1) / 2 = k from by omega]
theorem hv_lt {f : Nat → Nat} {n : Nat} (hf : ∀ i, i < n → f i < 4294967296) : ∀ i, i < 2 * n → hv f i < 65536 := by
  intro i hi
  have := hf (i / 2) (by omega)
  unfold hv
  split <;> omega
/-- Pairs of halves are limbs. -/
theorem num_pairs (h F : Nat → Nat) (k : Nat) (hF : ∀ j, j < k → F j = h (2 * j) + h (2 * j + 1) * 65536) : num 65536 h (2 * k) = num 4294967296 F k := by
  induction k with
  | zero => rfl
  | succ k ih =>
    rw [show 2 * (k + 1) = 2 * k + 1 + 1 from by omega, num_succ, num_succ, ih (fun j hj => hF j (by omega)), num_succ, hF k (by omega)]
    have e : (4294967296 : Nat) ^ k = 65536 ^ (2 * k) := by rw [Nat.pow_mul]
    rw [e, Nat.pow_succ, Nat.add_mul]
    generalize 65536 ^ (2 * k) = P
    have e2 : h (2 * k + 1) * 65536 * P = h (2 * k + 1) * (P * 65536) := by rw [Nat.mul_assoc, Nat.mul_comm 65536 P]
    omega
theorem num_hv (f : Nat → Nat) (k : Nat) : num 65536 (hv f) (2 * k) = num 4294967296 f k :=
  num_pairs (hv f) f k (fun j _ => by rw [hv_lo, hv_hi]; omega)

/-- Adding to any base, digit by digit, into a new row. -/
def SumRel (B : Nat) (f g S : Nat → Nat) (k c : Nat) : Prop :=
  c ≤ 1 ∧ (∀ i, i < k → S i < B) ∧ num B S k + c * B ^ k = num B f k + num B g k
theorem SumRel.step {B : Nat} {f g S : Nat → Nat} {k c x y : Nat} (r : SumRel B f g S k c) (hB : 1 < B) (hx : f k = x) (hy : g k = y) (hxl : x < B) (hyl : y < B) :
    SumRel B f g (upd S k ((x + y + c) % B)) (k + 1) ((x + y + c) / B) := by
  obtain ⟨h1, h2, h3⟩ := r
  refine ⟨?_, fun i hi => ?_, ?_⟩
  · have : x + y + c < 2 * B := by omega
    have := (Nat.div_lt_iff_lt_mul (show 0 < B by omega)).2 this
    omega
  · by_cases e : i = k
    · rw [e, upd_same]; exact Nat.mod_lt _ (by omega)
    · rw [upd_other e]; exact h2 i (by omega)
  · rw [num_succ, num_succ, num_succ, upd_same, num_congr (g := S) (fun i hi => upd_other (by omega)), hx, hy, Nat.pow_succ]
    generalize B ^ k = P at *
    have e2 : (x + y + c) % B * P + (x + y + c) / B * (P * B) = (x + y + c) * P := by
      rw [Nat.mul_comm P, ← Nat.mul_assoc, ← Nat.add_mul, Nat.mul_comm _ B, Nat.mod_add_div]
    rw [Nat.add_mul (x + y), Nat.add_mul x] at e2
    omega

/-- Taking, digit by digit, into a new row. -/
def DifRel (B : Nat) (f g S : Nat → Nat) (k c : Nat) : Prop :=
  c ≤ 1 ∧ (∀ i, i < k → S i < B) ∧ num B S k + num B g k = num B f k + c * B ^ k
theorem DifRel.step {B : Nat} {f g S : Nat → Nat} {k c x y d b : Nat} (r : DifRel B f g S k c) (hx : f k = x) (hy : g k = y) (hd : d < B) (hb : b ≤ 1) (hs : d + y + c = x + B * b) :
    DifRel B f g (upd S k d) (k + 1) b := by
  obtain ⟨h1, h2, h3⟩ := r
  refine ⟨hb, fun i hi => ?_, ?_⟩
  · by_cases e : i = k
    · rw [e, upd_same]; exact hd
    · rw [upd_other e]; exact h2 i (by omega)
  · rw [num_succ, num_succ, num_succ, upd_same, num_congr (g := S) (fun i hi => upd_other (by omega)), hx, hy, Nat.pow_succ]
    generalize B ^ k = P at *
    have e2 : (d + y + c) * P = (x + B * b) * P := by rw [hs]
    rw [Nat.add_mul, Nat.add_mul, Nat.add_mul] at e2
    have e3 : B * b * P = b * (P * B) := by rw [Nat.mul_comm B b, Nat.mul_assoc, Nat.mul_comm B P]
    omega

theorem own_push {k : IntKind} {E : TypeId} {w : World} {base : Nat} {v : Value} {n x : Nat} {S : Nat → Nat} (h : w.ownsRow base E 1 v (n + 1) (cellsOf k S n ++ [Value.int k (x : Int)])) : Own k E w base v (n + 1) (upd S n x) :=
  Own.of_row h (fun j hj => by
    by_cases e : j = n
    · subst e
      rw [upd_same, List.getElem?_append_right (by rw [cellsOf_length]; exact Nat.le_refl _), cellsOf_length]
      simp
    · rw [upd_other e, List.getElem?_append_left (by rw [cellsOf_length]; omega), cellsOf_get _ _ _ _ (by omega)])
theorem own_push2 {k : IntKind} {E : TypeId} {w : World} {base : Nat} {v : Value} {n x y : Nat} {S : Nat → Nat} (h : w.ownsRow base E 1 v (n + 2) (cellsOf k S n ++ [Value.int k (x : Int), Value.int k (y : Int)])) (hx : S n = x) (hy : S (n + 1) = y) : Own k E w base v (n + 2) S :=
  Own.of_row h (fun j hj => by
    by_cases e : j < n
    · rw [List.getElem?_append_left (by rw [cellsOf_length]; omega), cellsOf_get _ _ _ _ e]
    · rw [List.getElem?_append_right (by rw [cellsOf_length]; omega), cellsOf_length]
      by_cases e2 : j = n
      · subst e2; simp [hx]
      · obtain rfl : j = n + 1 := by omega
        simp [hy])

end Go.Proofs.YtdiacbfdfoeemaaDoor
