/-
  What is proved here: plain facts on long division, one quotient limb at a time; no walk.
-/
import Derived.Test.YtkmpobmpencefaaDoorGuess
import Derived.Test.YtkmpobmpencefaaDoorShiftMath
import Derived.Laws.MathBits
namespace Go.Proofs.YtkmpobmpencefaaDoor
open Go

theorem num_top2 (B : Nat) (G : Nat → Nat) (j m : Nat) (h : j < m) : num B (fun i => G (j + i)) (m - j) = G j + B * num B (fun i => G (j + 1 + i)) (m - (j + 1)) := by
  rw [show m - j = m - (j + 1) + 1 from by omega, num_head, Nat.add_zero]
  rw [num_congr (f := fun i => G (j + (1 + i))) (g := fun i => G (j + 1 + i)) (fun i _ => by rw [← Nat.add_assoc])]

/-- Where the quotient's limbs from j on are found: A is those times D, and what the rest holds. -/
def LongRel (A D n m j : Nat) (qf rf : Nat → Nat) : Prop :=
  num 4294967296 rf (n + m) < D * 4294967296 ^ j ∧ A = num 4294967296 (fun i => qf (j + i)) (m - j) * D * 4294967296 ^ j + num 4294967296 rf (n + m) ∧
  (∀ i, i < n + m → rf i < 4294967296) ∧ (∀ i, j ≤ i → i < m → qf i < 4294967296)

theorem LongRel.parts {A D n m j : Nat} {qf rf : Nat → Nat} (r : LongRel A D n m (j + 1) qf rf) (hj : j < m) (hD : D < 4294967296 ^ n) :
    num 4294967296 (fun i => rf (j + i)) (n + 1) < D * 4294967296 ∧ (∀ i, j + (n + 1) ≤ i → i < n + m → rf i = 0) ∧
    num 4294967296 rf (n + m) = num 4294967296 rf j + 4294967296 ^ j * num 4294967296 (fun i => rf (j + i)) (n + 1) := by
  obtain ⟨h1, h2, h3, h4⟩ := r
  have e1 : n + m = (j + (n + 1)) + (m - (j + 1)) := by omega
  have hsp : num 4294967296 rf (n + m) = num 4294967296 rf (j + (n + 1)) + 4294967296 ^ (j + (n + 1)) * num 4294967296 (fun i => rf (j + (n + 1) + i)) (m - (j + 1)) := by
    rw [show num 4294967296 rf (n + m) = num 4294967296 rf ((j + (n + 1)) + (m - (j + 1))) from by rw [← e1], num_split]
  have hz : num 4294967296 (fun i => rf (j + (n + 1) + i)) (m - (j + 1)) = 0 := by
    apply Nat.eq_zero_of_not_pos
    intro hpos
    have h5 : 4294967296 ^ (j + (n + 1)) * 1 ≤ 4294967296 ^ (j + (n + 1)) * num 4294967296 (fun i => rf (j + (n + 1) + i)) (m - (j + 1)) := Nat.mul_le_mul_left _ hpos
    have h6 : D * 4294967296 ^ (j + 1) ≤ 4294967296 ^ n * 4294967296 ^ (j + 1) := Nat.mul_le_mul_right _ (Nat.le_of_lt hD)
    rw [← Nat.pow_add, show n + (j + 1) = j + (n + 1) from by omega] at h6
    omega
  have hzz : ∀ i, i < m - (j + 1) → rf (j + (n + 1) + i) = 0 := by
    have := num_inj (B := 4294967296) (f := fun i => rf (j + (n + 1) + i)) (g := fun _ => 0) (n := m - (j + 1)) (fun i hi => h3 _ (by omega)) (fun _ _ => by decide)
      (by rw [hz, num_tail (n := 0) (by omega) (fun _ _ _ => rfl)]; rfl)
    exact this
  have hval : num 4294967296 rf (n + m) = num 4294967296 rf j + 4294967296 ^ j * num 4294967296 (fun i => rf (j + i)) (n + 1) := by
    rw [hsp, hz, Nat.mul_zero, Nat.add_zero, num_split]
  refine ⟨?_, fun i h5 h6 => ?_, hval⟩
  · have h5 : 4294967296 ^ j * num 4294967296 (fun i => rf (j + i)) (n + 1) < 4294967296 ^ j * (D * 4294967296) := by
      rw [Nat.pow_succ] at h1
      have : D * (4294967296 ^ j * 4294967296) = 4294967296 ^ j * (D * 4294967296) := by ac_rfl
      omega
    exact Nat.lt_of_mul_lt_mul_left h5
  · have := hzz (i - (j + (n + 1))) (by omega)
    rwa [show j + (n + 1) + (i - (j + (n + 1))) = i from by omega] at this

theorem LongRel.step {A D n m j q U' : Nat} {qf rf f' : Nat → Nat} (r : LongRel A D n m (j + 1) qf rf) (hj : j < m) (hD : D < 4294967296 ^ n) (hq : q < 4294967296)
    (ho : ∀ i, ¬ (j ≤ i ∧ i < j + (n + 1)) → f' i = rf i) (hd : ∀ i, i < n + 1 → f' (j + i) < 4294967296)
    (hU : num 4294967296 (fun i => f' (j + i)) (n + 1) = U') (hUq : U' + q * D = num 4294967296 (fun i => rf (j + i)) (n + 1)) (hUD : U' < D) :
    LongRel A D n m j (upd qf j q) f' := by
  obtain ⟨p1, p2, p3⟩ := r.parts hj hD
  obtain ⟨h1, h2, h3, h4⟩ := r
  have hv : num 4294967296 f' (n + m) = num 4294967296 rf j + 4294967296 ^ j * U' := by
    rw [num_tail (n := j + (n + 1)) (by omega) (fun i h5 h6 => by rw [ho i (by omega)]; exact p2 i h5 h6), num_split, hU]
    rw [num_congr (f := f') (g := rf) (n := j) (fun i hi => ho i (by omega))]
  have hlo : num 4294967296 rf j < 4294967296 ^ j := num_lt (fun i hi => h3 i (by omega))
  refine ⟨?_, ?_, fun i hi => ?_, fun i h5 h6 => ?_⟩
  · rw [hv]
    have : 4294967296 ^ j * (U' + 1) ≤ 4294967296 ^ j * D := Nat.mul_le_mul_left _ hUD
    rw [Nat.mul_add, Nat.mul_one] at this
    rw [Nat.mul_comm D]
    omega
  · rw [hv, num_top2 4294967296 (upd qf j q) j m hj, upd_same]
    rw [num_congr (f := fun i => upd qf j q (j + 1 + i)) (g := fun i => qf (j + 1 + i)) (fun i _ => upd_other (by omega))]
    rw [h2, p3, ← hUq, Nat.pow_succ]
    generalize num 4294967296 (fun i => qf (j + 1 + i)) (m - (j + 1)) = Q
    generalize 4294967296 ^ j = P
    generalize num 4294967296 rf j = lo
    have e1 : (q + 4294967296 * Q) * D * P = q * D * P + Q * D * (P * 4294967296) := by
      rw [Nat.add_mul, Nat.add_mul]
      congr 1
      ac_rfl
    have e2 : P * (U' + q * D) = P * U' + q * D * P := by rw [Nat.mul_add, Nat.mul_comm P (q * D)]
    rw [e1, e2]
    omega
  · by_cases e : j ≤ i ∧ i < j + (n + 1)
    · have := hd (i - j) (by omega)
      rwa [show j + (i - j) = i from by omega] at this
    · rw [ho i e]; exact h3 i hi
  · by_cases e : i = j
    · rw [e, upd_same]; exact hq
    · rw [upd_other e]; exact h4 i (by omega) h6

theorem LongRel.done {A D n m : Nat} {qf rf : Nat → Nat} (r : LongRel A D n m 0 qf rf) (hD : D < 4294967296 ^ n) :
    num 4294967296 rf n < D ∧ A = num 4294967296 qf m * D + num 4294967296 rf n := by
  obtain ⟨h1, h2, h3, h4⟩ := r
  have e0 : ∀ q : Nat → Nat, (fun i => q (0 + i)) = q := fun q => by funext i; rw [Nat.zero_add]
  rw [e0, Nat.sub_zero, Nat.pow_zero, Nat.mul_one] at h2
  rw [Nat.pow_zero, Nat.mul_one] at h1
  have hn : num 4294967296 rf (n + m) = num 4294967296 rf n := by
    rw [num_split]
    have : num 4294967296 (fun i => rf (n + i)) m = 0 := by
      apply Nat.eq_zero_of_not_pos
      intro hpos
      have h5 : 4294967296 ^ n * 1 ≤ 4294967296 ^ n * num 4294967296 (fun i => rf (n + i)) m := Nat.mul_le_mul_left _ hpos
      rw [num_split] at h1
      omega
    rw [this, Nat.mul_zero, Nat.add_zero]
  rw [hn] at h1 h2
  exact ⟨h1, h2⟩

/-- The two ways behind a guess: it was right, or 1 too great. -/
theorem guess_right {U D q g V : Nat} (hq : q * D ≤ U) (hq2 : U < (q + 1) * D) (hg1 : q ≤ g) (hg2 : g ≤ q + 1) (hV : V + g * D = U) : g = q ∧ V < D := by
  have e : g = q := by
    apply Nat.le_antisymm _ hg1
    apply Nat.le_of_not_lt
    intro h
    have : (q + 1) * D ≤ g * D := Nat.mul_le_mul_right _ h
    omega
  subst e
  rw [Nat.add_mul, Nat.one_mul] at hq2
  exact ⟨rfl, by omega⟩
theorem guess_over {U D q g V N : Nat} (hq : q * D ≤ U) (hg1 : q ≤ g) (hg2 : g ≤ q + 1) (hV : V + g * D = U + N) (hVN : V < N) : g = q + 1 := by
  apply Nat.le_antisymm hg2
  apply Nat.lt_of_le_of_ne hg1
  intro e
  subst e
  omega
theorem guess_back {U D q V V2 N c : Nat} (hq : q * D ≤ U) (hq2 : U < (q + 1) * D) (_hDN : D ≤ N) (hV : V + (q + 1) * D = U + N) (hV2 : V2 + c * N = V + D) (hc : c ≤ 1) (hV2N : V2 < N) : V2 + q * D = U ∧ V2 < D := by
  rw [Nat.add_mul, Nat.one_mul] at hV hq2
  have hc1 : c = 1 := by
    by_cases h : c = 0
    · subst h; omega
    · omega
  subst hc1
  omega

theorem succ_times (a P : Nat) : (a + 1) * P = a * P + P := by rw [Nat.add_mul, Nat.one_mul]
theorem top_le {first second x0 x1 x2 D2 U3 : Nat} (hD2 : D2 = first * 4294967296 + second) (hU3 : U3 = (x0 * 4294967296 + x1) * 4294967296 + x2) (hs : second < 4294967296) (h : U3 < (D2 + 1) * 4294967296) : x0 ≤ first := by omega
theorem top_cut {U D U3 D2 P : Nat} (k1 : D < (D2 + 1) * P) (k4 : U3 * P ≤ U) (hU : U < D * 4294967296) : U3 < (D2 + 1) * 4294967296 := by
  have h1 : D * 4294967296 < (D2 + 1) * P * 4294967296 := Nat.mul_lt_mul_of_pos_right k1 (by decide)
  have h2 : (D2 + 1) * P * 4294967296 = (D2 + 1) * 4294967296 * P := by ac_rfl
  have h3 : U3 * P < (D2 + 1) * 4294967296 * P := by omega
  exact Nat.lt_of_mul_lt_mul_right h3

/-- The divisor's highest bit is set by the shift that its leading zeros tell. -/
theorem top_shift {x : Nat} (hx : x < 4294967296) (h0 : x ≠ 0) : bitLen x ≤ 32 ∧ 1 ≤ bitLen x ∧ 2147483648 ≤ x * 2 ^ (32 - bitLen x) ∧ x * 2 ^ (32 - bitLen x) < 4294967296 := by
  obtain ⟨h1, h2⟩ := bitLen_spec x
  have h2 := h2 h0
  have hb1 : 1 ≤ bitLen x := by
    apply Nat.lt_of_not_le
    intro h
    have : bitLen x = 0 := by omega
    rw [this] at h1
    omega
  have hb : bitLen x ≤ 32 := by
    apply Nat.le_of_not_lt
    intro h
    have : 2 ^ 32 ≤ 2 ^ (bitLen x - 1) := Nat.pow_le_pow_right (by decide) (by omega)
    omega
  refine ⟨hb, hb1, ?_, ?_⟩
  · have : 2 ^ (bitLen x - 1) * 2 ^ (32 - bitLen x) ≤ x * 2 ^ (32 - bitLen x) := Nat.mul_le_mul_right _ h2
    rw [← Nat.pow_add, show bitLen x - 1 + (32 - bitLen x) = 31 from by omega] at this
    exact this
  · have : x * 2 ^ (32 - bitLen x) < 2 ^ bitLen x * 2 ^ (32 - bitLen x) := Nat.mul_lt_mul_of_pos_right h1 (Nat.two_pow_pos _)
    rw [← Nat.pow_add, show bitLen x + (32 - bitLen x) = 32 from by omega] at this
    exact this

theorem shl_top {h df : Nat → Nat} {s n x : Nat} (hs : s < 32) (r : ShlRel h (2 ^ s) n df) (hn : 1 ≤ n) (hh : ∀ i, i < n → h i < 4294967296) (hx : h (n - 1) = x) (hx1 : x * 2 ^ s < 4294967296) (hx2 : 2147483648 ≤ x * 2 ^ s) :
    df n = 0 ∧ num 4294967296 df n = num 4294967296 h n * 2 ^ s ∧ num 4294967296 h n * 2 ^ s < 4294967296 ^ n ∧ 2147483648 ≤ df (n - 1) := by
  obtain ⟨r1, r2, r3, r4⟩ := r
  obtain ⟨k, rfl⟩ : ∃ k, n = k + 1 := ⟨n - 1, by omega⟩
  rw [Nat.add_sub_cancel] at hx ⊢
  have hp := pow_split s hs
  have hxl : x + 1 ≤ 2 ^ (32 - s) := by
    rw [← hp, Nat.mul_comm] at hx1
    exact Nat.lt_of_mul_lt_mul_left hx1
  have hx3 : (x + 1) * 2 ^ s ≤ 4294967296 := by
    have := Nat.mul_le_mul_right (2 ^ s) hxl
    rw [Nat.mul_comm (2 ^ (32 - s)), hp] at this
    exact this
  have hlo := num_lt (B := 4294967296) (f := h) (n := k) (fun i hi => hh i (by omega))
  have hBv : num 4294967296 h (k + 1) = num 4294967296 h k + x * 4294967296 ^ k := by rw [num_succ, hx]
  have hlt : num 4294967296 h (k + 1) * 2 ^ s < 4294967296 ^ (k + 1) := by
    have h1 : num 4294967296 h (k + 1) < (x + 1) * 4294967296 ^ k := by rw [hBv, Nat.add_mul, Nat.one_mul]; omega
    have h2 : num 4294967296 h (k + 1) * 2 ^ s < (x + 1) * 4294967296 ^ k * 2 ^ s := Nat.mul_lt_mul_of_pos_right h1 (Nat.two_pow_pos s)
    have h3 : (x + 1) * 4294967296 ^ k * 2 ^ s = (x + 1) * 2 ^ s * 4294967296 ^ k := by ac_rfl
    have h4 : (x + 1) * 2 ^ s * 4294967296 ^ k ≤ 4294967296 * 4294967296 ^ k := Nat.mul_le_mul_right _ hx3
    rw [Nat.pow_succ, Nat.mul_comm (4294967296 ^ k)]
    omega
  have hz : df (k + 1) = 0 := by
    apply Nat.eq_zero_of_not_pos
    intro hpos
    have h1 : 1 * 4294967296 ^ (k + 1) ≤ df (k + 1) * 4294967296 ^ (k + 1) := Nat.mul_le_mul_right _ hpos
    rw [num_succ] at r1
    omega
  have hn2 : num 4294967296 df (k + 1) = num 4294967296 h (k + 1) * 2 ^ s := by
    rw [num_succ, hz, Nat.zero_mul, Nat.add_zero] at r1
    exact r1
  refine ⟨hz, hn2, hlt, ?_⟩
  have h5 := num_lt (B := 4294967296) (f := df) (n := k) (fun i hi => r3 i (by omega))
  have h6 : x * 2 ^ s * 4294967296 ^ k ≤ num 4294967296 h (k + 1) * 2 ^ s := by
    rw [hBv]
    have : x * 4294967296 ^ k * 2 ^ s ≤ (num 4294967296 h k + x * 4294967296 ^ k) * 2 ^ s := Nat.mul_le_mul_right _ (by omega)
    have e : x * 4294967296 ^ k * 2 ^ s = x * 2 ^ s * 4294967296 ^ k := by ac_rfl
    omega
  rw [← hn2, num_succ] at h6
  have h7 : 2147483648 * 4294967296 ^ k ≤ x * 2 ^ s * 4294967296 ^ k := Nat.mul_le_mul_right _ hx2
  have h8 : 2147483648 * 4294967296 ^ k < (df k + 1) * 4294967296 ^ k := by rw [Nat.add_mul, Nat.one_mul]; omega
  have := Nat.lt_of_mul_lt_mul_right h8
  omega

theorem long_end {A Bv t Q V R e : Nat} (ht : 0 < t) (h1 : A * t = Q * (Bv * t) + V) (h2 : V < Bv * t) (h3 : t * R + e = V) (h4 : e < t) : Q = A / Bv ∧ R = A % Bv := by
  have h5 : A * t = (Q * Bv + R) * t + e := by
    rw [h1, ← h3, Nat.add_mul, ← Nat.mul_assoc, Nat.mul_comm R t]
    omega
  have he : e = 0 := by
    have h6 : A * t % t = 0 := Nat.mul_mod_left _ _
    rw [h5, Nat.mul_comm, Nat.mul_add_mod, Nat.mod_eq_of_lt h4] at h6
    exact h6
  subst he
  rw [Nat.add_zero] at h5 h3
  have hA : A = Q * Bv + R := Nat.eq_of_mul_eq_mul_right ht h5
  have hR : R < Bv := by
    rw [← h3, Nat.mul_comm] at h2
    exact Nat.lt_of_mul_lt_mul_right h2
  have hB : 0 < Bv := by omega
  rw [hA]
  constructor
  · rw [Nat.mul_comm, Nat.mul_add_div hB, Nat.div_eq_of_lt hR, Nat.add_zero]
  · rw [Nat.mul_comm, Nat.mul_add_mod, Nat.mod_eq_of_lt hR]

theorem long_start {A Bv t n m la : Nat} {h : Nat → Nat} (hm : n + m = la + 1) (hn : 1 ≤ n) (hA : A < 4294967296 ^ la) (hB : Bv = num 4294967296 h n) (htop : h (n - 1) ≠ 0) (ht : 0 < t) : A * t < Bv * t * 4294967296 ^ m := by
  have h1 := num_ge (B := 4294967296) (f := h) (n := n) (by omega) htop
  rw [← hB] at h1
  have h2 : 4294967296 ^ la ≤ Bv * 4294967296 ^ m := by
    have : 4294967296 ^ (n - 1) * 4294967296 ^ m ≤ Bv * 4294967296 ^ m := Nat.mul_le_mul_right _ h1
    rwa [← Nat.pow_add, show n - 1 + m = la from by omega] at this
  have h3 : A * t < Bv * 4294967296 ^ m * t := Nat.mul_lt_mul_of_pos_right (by omega) ht
  have h4 : Bv * 4294967296 ^ m * t = Bv * t * 4294967296 ^ m := by ac_rfl
  omega

end Go.Proofs.YtkmpobmpencefaaDoor
