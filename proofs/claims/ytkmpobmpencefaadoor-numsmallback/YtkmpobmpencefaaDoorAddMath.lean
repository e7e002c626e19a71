/-
  What is proved here: plain facts on adding and taking digit by digit, with a carry; no walk.
-/
import Derived.Test.YtkmpobmpencefaaDoorBase
namespace Go.Proofs.YtkmpobmpencefaaDoor

/-- Behind k digits: the first k digits of the row (from place 'off' on) hold f's and h's sum but for the carry c; all else in the row is f's. -/
def AddRel (f h : Nat → Nat) (off n k : Nat) (f' : Nat → Nat) (c : Nat) : Prop :=
  c ≤ 1 ∧ (∀ i, ¬ (off ≤ i ∧ i < off + k) → f' i = f i) ∧ (∀ i, i < n → f' (off + i) < 4294967296) ∧
  num 4294967296 (fun i => f' (off + i)) k + c * 4294967296 ^ k = num 4294967296 (fun i => f (off + i)) k + num 4294967296 h k

theorem AddRel.start {f h : Nat → Nat} {off n : Nat} (hf : ∀ i, i < n → f (off + i) < 4294967296) : AddRel f h off n 0 f 0 :=
  ⟨by omega, fun _ _ => rfl, hf, by simp [num]⟩

theorem AddRel.step {f h f' : Nat → Nat} {off n k c x y : Nat} (r : AddRel f h off n k f' c) (_hk : k < n) (hx : f' (off + k) = x) (hy : h k = y) (hyl : y < 4294967296) :
    AddRel f h off n (k + 1) (upd f' (off + k) ((x + y + c) % 4294967296)) ((x + y + c) / 4294967296) := by
  obtain ⟨h1, h2, h3, h4⟩ := r
  have hxl : x < 4294967296 := by rw [← hx]; exact h3 k (by omega)
  refine ⟨by omega, fun i hi => ?_, fun i hi => ?_, ?_⟩
  · rw [upd_other (by omega)]
    exact h2 i (by omega)
  · by_cases e : i = k
    · rw [e, upd_same]; exact Nat.mod_lt _ (by decide)
    · rw [upd_other (by omega)]; exact h3 i hi
  · rw [num_succ, num_succ, num_succ, upd_same]
    rw [num_congr (g := fun i => f' (off + i)) (fun i hi => upd_other (by omega))]
    have e1 : f (off + k) = x := by rw [← hx]; exact (h2 _ (by omega)).symm
    rw [e1, hy, Nat.pow_succ]
    generalize 4294967296 ^ k = P at *
    have e2 : (x + y + c) % 4294967296 * P + (x + y + c) / 4294967296 * (P * 4294967296) = (x + y + c) * P := by
      rw [Nat.mul_comm P, ← Nat.mul_assoc, ← Nat.add_mul, Nat.mul_comm _ 4294967296, Nat.mod_add_div]
    rw [Nat.add_mul, Nat.add_mul] at e2
    omega

theorem AddRel.full {f h f' : Nat → Nat} {off n c : Nat} (r : AddRel f h off n n f' c) :
    num 4294967296 (fun i => f' (off + i)) n + c * 4294967296 ^ n = num 4294967296 (fun i => f (off + i)) n + num 4294967296 h n := r.2.2.2

/-- No carry is left: the higher digits stand. -/
theorem AddRel.rest {f h f' : Nat → Nat} {off n k : Nat} (r : AddRel f h off n k f' 0) (hk : k ≤ n) (hz : ∀ i, k ≤ i → i < n → h i = 0) : AddRel f h off n n f' 0 := by
  obtain ⟨h1, h2, h3, h4⟩ := r
  refine ⟨h1, fun i hi => h2 i (by omega), h3, ?_⟩
  obtain ⟨d, rfl⟩ : ∃ d, n = k + d := ⟨n - k, by omega⟩
  rw [num_tail (n := k) (m := k + d) hk hz, num_split, num_split 4294967296 (fun i => f (off + i))]
  rw [num_congr (g := fun i => f (off + (k + i))) (n := d) (fun i hi => h2 _ (by omega))]
  omega

/-- Behind k digits: f less h, but for what was borrowed. -/
def SubRel (f h : Nat → Nat) (off n k : Nat) (f' : Nat → Nat) (c : Nat) : Prop :=
  c ≤ 1 ∧ (∀ i, ¬ (off ≤ i ∧ i < off + k) → f' i = f i) ∧ (∀ i, i < n → f' (off + i) < 4294967296) ∧
  num 4294967296 (fun i => f' (off + i)) k + num 4294967296 h k = num 4294967296 (fun i => f (off + i)) k + c * 4294967296 ^ k

theorem SubRel.start {f h : Nat → Nat} {off n : Nat} (hf : ∀ i, i < n → f (off + i) < 4294967296) : SubRel f h off n 0 f 0 :=
  ⟨by omega, fun _ _ => rfl, hf, by simp [num]⟩

theorem SubRel.step {f h f' : Nat → Nat} {off n k c x y d b : Nat} (r : SubRel f h off n k f' c) (_hk : k < n) (hx : f' (off + k) = x) (hy : h k = y) (hd : d < 4294967296) (hb : b ≤ 1) (hs : d + y + c = x + 4294967296 * b) :
    SubRel f h off n (k + 1) (upd f' (off + k) d) b := by
  obtain ⟨h1, h2, h3, h4⟩ := r
  refine ⟨hb, fun i hi => ?_, fun i hi => ?_, ?_⟩
  · rw [upd_other (by omega)]
    exact h2 i (by omega)
  · by_cases e : i = k
    · rw [e, upd_same]; exact hd
    · rw [upd_other (by omega)]; exact h3 i hi
  · rw [num_succ, num_succ, num_succ, upd_same]
    rw [num_congr (g := fun i => f' (off + i)) (fun i hi => upd_other (by omega))]
    have e1 : f (off + k) = x := by rw [← hx]; exact (h2 _ (by omega)).symm
    rw [e1, hy, Nat.pow_succ]
    generalize 4294967296 ^ k = P at *
    have e2 : (d + y + c) * P = (x + 4294967296 * b) * P := by rw [hs]
    rw [Nat.add_mul, Nat.add_mul, Nat.add_mul] at e2
    have e3 : 4294967296 * b * P = b * (P * 4294967296) := by rw [Nat.mul_comm 4294967296 b, Nat.mul_assoc, Nat.mul_comm 4294967296 P]
    omega

theorem SubRel.rest {f h f' : Nat → Nat} {off n k : Nat} (r : SubRel f h off n k f' 0) (hk : k ≤ n) (hz : ∀ i, k ≤ i → i < n → h i = 0) : SubRel f h off n n f' 0 := by
  obtain ⟨h1, h2, h3, h4⟩ := r
  refine ⟨h1, fun i hi => h2 i (by omega), h3, ?_⟩
  obtain ⟨d, rfl⟩ : ∃ d, n = k + d := ⟨n - k, by omega⟩
  rw [num_tail (n := k) (m := k + d) hk hz, num_split, num_split 4294967296 (fun i => f (off + i))]
  rw [num_congr (g := fun i => f (off + (k + i))) (n := d) (fun i hi => h2 _ (by omega))]
  omega

/-- h, and noughts from m on. -/
def cut (h : Nat → Nat) (m : Nat) : Nat → Nat := fun i => if i < m then h i else 0
theorem cut_in {h : Nat → Nat} {m i : Nat} (hi : i < m) : cut h m i = h i := by simp [cut, hi]
theorem cut_out {h : Nat → Nat} {m i : Nat} (hi : m ≤ i) : cut h m i = 0 := by simp [cut]; omega
theorem num_cut {B : Nat} {h : Nat → Nat} {m n : Nat} (hn : m ≤ n) : num B (cut h m) n = num B h m := by
  rw [num_tail hn (fun i h1 _ => cut_out h1), num_congr (g := h) (fun i hi => cut_in hi)]

end Go.Proofs.YtkmpobmpencefaaDoor
