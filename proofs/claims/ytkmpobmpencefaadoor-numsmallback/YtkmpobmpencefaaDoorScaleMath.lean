/-
  What is proved here: plain facts on multiplying a number's digits by a small factor, and on decimal digits; no walk.
-/
import Derived.Test.YtkmpobmpencefaaDoorAddMath
namespace Go.Proofs.YtkmpobmpencefaaDoor

/-- Behind k digits: f's first k digits times d, and c0, but for the carry c. -/
def ScaleRel (f : Nat → Nat) (d c0 n k : Nat) (f' : Nat → Nat) (c : Nat) : Prop :=
  c < d ∧ (∀ i, k ≤ i → f' i = f i) ∧ (∀ i, i < n → f' i < 4294967296) ∧ num 4294967296 f' k + c * 4294967296 ^ k = num 4294967296 f k * d + c0

theorem ScaleRel.start {f : Nat → Nat} {d c0 n : Nat} (hf : ∀ i, i < n → f i < 4294967296) (hc : c0 < d) : ScaleRel f d c0 n 0 f c0 :=
  ⟨hc, fun _ _ => rfl, hf, by simp [num]⟩

theorem ScaleRel.step {f f' : Nat → Nat} {d c0 n k c x : Nat} (r : ScaleRel f d c0 n k f' c) (_hk : k < n) (hx : f' k = x) :
    ScaleRel f d c0 n (k + 1) (upd f' k ((x * d + c) % 4294967296)) ((x * d + c) / 4294967296) := by
  obtain ⟨h1, h2, h3, h4⟩ := r
  have hxl : x < 4294967296 := by rw [← hx]; exact h3 k (by omega)
  have hs : x * d + c < 4294967296 * d := by
    have : (x + 1) * d ≤ 4294967296 * d := Nat.mul_le_mul_right _ hxl
    rw [Nat.add_mul, Nat.one_mul] at this
    omega
  refine ⟨(Nat.div_lt_iff_lt_mul (by decide)).2 (Nat.mul_comm 4294967296 d ▸ hs), fun i hi => ?_, fun i hi => ?_, ?_⟩
  · rw [upd_other (by omega)]
    exact h2 i (by omega)
  · by_cases e : i = k
    · rw [e, upd_same]; exact Nat.mod_lt _ (by decide)
    · rw [upd_other (by omega)]; exact h3 i hi
  · rw [num_succ, num_succ, upd_same]
    rw [num_congr (g := f') (fun i hi => upd_other (by omega))]
    have e1 : f k = x := by rw [← hx]; exact (h2 _ (by omega)).symm
    rw [e1, Nat.pow_succ]
    generalize 4294967296 ^ k = P at *
    have e2 : (x * d + c) % 4294967296 * P + (x * d + c) / 4294967296 * (P * 4294967296) = (x * d + c) * P := by
      rw [Nat.mul_comm P, ← Nat.mul_assoc, ← Nat.add_mul, Nat.mul_comm _ 4294967296, Nat.mod_add_div]
    rw [Nat.add_mul (x * d)] at e2
    have e3 : (num 4294967296 f k + x * P) * d = num 4294967296 f k * d + x * d * P := by
      rw [Nat.add_mul, Nat.mul_assoc, Nat.mul_comm P, ← Nat.mul_assoc]
    rw [e3]
    omega

/-- Great enough: the highest digit is not 0. -/
theorem top_of_ge {B : Nat} {f : Nat → Nat} {n : Nat} (hf : ∀ i, i < n → f i < B) (hn : 0 < n) (h : B ^ (n - 1) ≤ num B f n) : f (n - 1) ≠ 0 := by
  intro e
  have h1 := num_lt (B := B) (f := f) (n := n - 1) (fun i hi => hf i (by omega))
  have h2 : num B f n = num B f (n - 1) := num_tail (by omega) (fun i h1 h2 => by rw [show i = n - 1 from by omega]; exact e)
  omega

theorem ScaleRel.can {f f' : Nat → Nat} {d c0 n : Nat} (r : ScaleRel f d c0 n n f' 0) (hd : 0 < d) (hf : Can 4294967296 f n) : Can 4294967296 f' n := by
  refine ⟨r.2.2.1, ?_⟩
  by_cases hn : n = 0
  · exact .inl hn
  · refine .inr (top_of_ge r.2.2.1 (by omega) ?_)
    have h1 := num_ge (B := 4294967296) (f := f) (n := n) (by omega) (by rcases hf.2 with h | h; omega; exact h)
    have h2 := r.2.2.2
    have h3 : num 4294967296 f n * 1 ≤ num 4294967296 f n * d := Nat.mul_le_mul_left _ hd
    omega

/-- The number that decimal digits say, the highest first. -/
def dec (d : Nat → Nat) : Nat → Nat
  | 0 => 0
  | k + 1 => dec d k * 10 + d k
theorem dec_split (d : Nat → Nat) (a b : Nat) : dec d (a + b) = dec d a * 10 ^ b + dec (fun i => d (a + i)) b := by
  induction b with
  | zero => simp [dec]
  | succ b ih =>
    rw [← Nat.add_assoc, dec, ih, dec, Nat.pow_succ, Nat.add_mul, Nat.mul_assoc, Nat.add_assoc]
theorem dec_lt {d : Nat → Nat} {k : Nat} (h : ∀ i, i < k → d i ≤ 9) : dec d k < 10 ^ k := by
  induction k with
  | zero => simp [dec]
  | succ k ih =>
    have h1 := ih (fun i hi => h i (by omega))
    have h2 := h k (by omega)
    rw [dec, Nat.pow_succ]
    omega
theorem dec_congr {d e : Nat → Nat} {k : Nat} (h : ∀ i, i < k → d i = e i) : dec d k = dec e k := by
  induction k with
  | zero => rfl
  | succ k ih => rw [dec, dec, ih (fun i hi => h i (by omega)), h k (by omega)]

end Go.Proofs.YtkmpobmpencefaaDoor
