/-
  What is proved here: plain facts on long division, one quotient limb at a time; no walk. nat.divideLong answers quotient and rest of two numbers, the divisor of two limbs or more. nat.divideLong answers quotient and rest of two numbers, the divisor of two limbs or more.
-/
import Derived.Test.YtjbocfhmfidjjaaDoorGuess
import Derived.Test.YtjbocfhmfidjjaaDoorShift
import Derived.Laws.MathBits
import Derived.Test.YtjbocfhmfidjjaaDoorLen
import Derived.Test.YtjbocfhmfidjjaaDoorAdd
import Derived.Test.YtjbocfhmfidjjaaDoorUp0
namespace Go.Proofs.YtjbocfhmfidjjaaDoor
open Go Go.RowKit

theorem num_top2 (B : Nat) (G : Nat → Nat) (j m : Nat) (h : j < m) : num B (fun i => G (j + i)) (m - j) = G j + B * num B (fun i => G (j + 1 + i)) (m - (j + 1)) := by
  rw [show m - j = m - (j + 1) + 1 from by omega, num_head, Nat.add_zero]
  rw [num_congr (f := fun i => G (j + (1 + i))) (g := fun i => G (j + 1 + i)) (fun i _ => by rw [← Nat.add_assoc])]

/-- Where the quotient's limbs from j on are found: A is those times D, and what the rest holds. -/
def LongRel (A D n m j : Nat) (qf rf : Nat → Nat) : Prop :=
  num 4294967296 rf (n + m) < D * 4294967296 ^ j ∧ A = num 4294967296 (fun i => qf (j + i)) (m - j) * D * 4294967296 ^ j + num 4294967296 rf (n + m) ∧
  (∀ i, i < n + m → rf i < 4294967296) ∧ (∀ i, j ≤ i → i < m → qf i < 4294967296)

theorem LongRel.parts {A D n m j : Nat} {qf rf : Nat → Nat} (r : LongRel A D n m (j + 1) qf rf) (hj : j < m) (hD : D < 4294967296 ^ n) :
    num 4294967296 (fun i => rf (j + i)) (n + 1) < D * 4294967296 ∧ (∀ i, j + (n + 1) ≤ i → i < n + m → rf i = 0) ∧
    num 4294967296 rf (n + m) = num 4294967296 rf j + 4294967296 ^ j * num 4294967296 (fun i => rf (j + i)) (n + 1) := by
  obtain ⟨h1, h2, h3, h4⟩ := r
  have e1 : n + m = (j + (n + 1)) + (m - (j + 1)) := by omega
  have hsp : num 4294967296 rf (n + m) = num 4294967296 rf (j + (n + 1)) + 4294967296 ^ (j + (n + 1)) * num 4294967296 (fun i => rf (j + (n + 1) + i)) (m - (j + 1)) := by
    rw [show num 4294967296 rf (n + m) = num 4294967296 rf ((j + (n + 1)) + (m - (j + 1))) from by rw [← e1], num_split]
  have hz : num 4294967296 (fun i => rf (j + (n + 1) + i)) (m - (j + 1)) = 0 := by
    apply Nat.eq_zero_of_not_pos
    intro hpos
    have h5 : 4294967296 ^ (j + (n + 1)) * 1 ≤ 4294967296 ^ (j + (n + 1)) * num 4294967296 (fun i => rf (j + (n + 1) + i)) (m - (j + 1)) := Nat.mul_le_mul_left _ hpos
    have h6 : D * 4294967296 ^ (j + 1) ≤ 4294967296 ^ n * 4294967296 ^ (j + 1) := Nat.mul_le_mul_right _ (Nat.le_of_lt hD)
    rw [← Nat.pow_add, show n + (j + 1) = j + (n + 1) from by omega] at h6
    omega
  have hzz : ∀ i, i < m - (j + 1) → rf (j + (n + 1) + i) = 0 := by
    have := num_inj (B := 4294967296) (f := fun i => rf (j + (n + 1) + i)) (g := fun _ => 0) (n := m - (j + 1)) (fun i hi => h3 _ (by omega)) (fun _ _ => by decide)
      (by rw [hz, num_tail (n := 0) (by omega) (fun _ _ _ => rfl)]; rfl)
    exact this
  have hval : num 4294967296 rf (n + m) = num 4294967296 rf j + 4294967296 ^ j * num 4294967296 (fun i => rf (j + i)) (n + 1) := by
    rw [hsp, hz, Nat.mul_zero, Nat.add_zero, num_split]
  refine ⟨?_, fun i h5 h6 => ?_, hval⟩
  · have h5 : 4294967296 ^ j * num 4294967296 (fun i => rf (j + i)) (n + 1) < 4294967296 ^ j * (D * 4294967296) := by
      rw [Nat.pow_succ] at h1
      have : D * (4294967296 ^ j * 4294967296) = 4294967296 ^ j * (D * 4294967296) := by ac_rfl
      omega
    exact Nat.lt_of_mul_lt_mul_left h5
  · have := hzz (i - (j + (n + 1))) (by omega)
    rwa [show j + (n + 1) + (i - (j + (n + 1))) = i from by omega] at this

theorem LongRel.step {A D n m j q U' : Nat} {qf rf f' : Nat → Nat} (r : LongRel A D n m (j + 1) qf rf) (hj : j < m) (hD : D < 4294967296 ^ n) (hq : q < 4294967296)
    (ho : ∀ i, ¬ (j ≤ i ∧ i < j + (n + 1)) → f' i = rf i) (hd : ∀ i, i < n + 1 → f' (j + i) < 4294967296)
    (hU : num 4294967296 (fun i => f' (j + i)) (n + 1) = U') (hUq : U' + q * D = num 4294967296 (fun i => rf (j + i)) (n + 1)) (hUD : U' < D) :
    LongRel A D n m j (upd qf j q) f' := by
  obtain ⟨p1, p2, p3⟩ := r.parts hj hD
  obtain ⟨h1, h2, h3, h4⟩ := r
  have hv : num 4294967296 f' (n + m) = num 4294967296 rf j + 4294967296 ^ j * U' := by
    rw [num_tail (n := j + (n + 1)) (by omega) (fun i h5 h6 => by rw [ho i (by omega)]; exact p2 i h5 h6), num_split, hU]
    rw [num_congr (f := f') (g := rf) (n := j) (fun i hi => ho i (by omega))]
  have hlo : num 4294967296 rf j < 4294967296 ^ j := num_lt (fun i hi => h3 i (by omega))
  refine ⟨?_, ?_, fun i hi => ?_, fun i h5 h6 => ?_⟩
  · rw [hv]
    have : 4294967296 ^ j * (U' + 1) ≤ 4294967296 ^ j * D := Nat.mul_le_mul_left _ hUD
    rw [Nat.mul_add, Nat.mul_one] at this
    rw [Nat.mul_comm D]
    omega
  · rw [hv, num_top2 4294967296 (upd qf j q) j m hj, upd_same]
    rw [num_congr (f := fun i => upd qf j q (j + 1 + i)) (g := fun i => qf (j + 1 + i)) (fun i _ => upd_other (by omega))]
    rw [h2, p3, ← hUq, Nat.pow_succ]
    generalize num 4294967296 (fun i => qf (j + 1 + i)) (m - (j + 1)) = Q
    generalize 4294967296 ^ j = P
    generalize num 4294967296 rf j = lo
    have e1 : (q + 4294967296 * Q) * D * P = q * D * P + Q * D * (P * 4294967296) := by
      rw [Nat.add_mul, Nat.add_mul]
      congr 1
      ac_rfl
    have e2 : P * (U' + q * D) = P * U' + q * D * P := by rw [Nat.mul_add, Nat.mul_comm P (q * D)]
    rw [e1, e2]
    omega
  · by_cases e : j ≤ i ∧ i < j + (n + 1)
    · have := hd (i - j) (by omega)
      rwa [show j + (i - j) = i from by omega] at this
    · rw [ho i e]; exact h3 i hi
  · by_cases e : i = j
    · rw [e, upd_same]; exact hq
    · rw [upd_other e]; exact h4 i (by omega) h6

theorem LongRel.done {A D n m : Nat} {qf rf : Nat → Nat} (r : LongRel A D n m 0 qf rf) (hD : D < 4294967296 ^ n) :
    num 4294967296 rf n < D ∧ A = num 4294967296 qf m * D + num 4294967296 rf n := by
  obtain ⟨h1, h2, h3, h4⟩ := r
  have e0 : ∀ q : Nat → Nat, (fun i => q (0 + i)) = q := fun q => by funext i; rw [Nat.zero_add]
  rw [e0, Nat.sub_zero, Nat.pow_zero, Nat.mul_one] at h2
  rw [Nat.pow_zero, Nat.mul_one] at h1
  have hn : num 4294967296 rf (n + m) = num 4294967296 rf n := by
    rw [num_split]
    have : num 4294967296 (fun i => rf (n + i)) m = 0 := by
      apply Nat.eq_zero_of_not_pos
      intro hpos
      have h5 : 4294967296 ^ n * 1 ≤ 4294967296 ^ n * num 4294967296 (fun i => rf (n + i)) m := Nat.mul_le_mul_left _ hpos
      rw [num_split] at h1
      omega
    rw [this, Nat.mul_zero, Nat.add_zero]
  rw [hn] at h1 h2
  exact ⟨h1, h2⟩

/-- The two ways behind a guess: it was right, or 1 too great. -/
theorem guess_right {U D q g V : Nat} (hq : q * D ≤ U) (hq2 : U < (q + 1) * D) (hg1 : q ≤ g) (hg2 : g ≤ q + 1) (hV : V + g * D = U) : g = q ∧ V < D := by
  have e : g = q := by
    apply Nat.le_antisymm _ hg1
    apply Nat.le_of_not_lt
    intro h
    have : (q + 1) * D ≤ g * D := Nat.mul_le_mul_right _ h
    omega
  subst e
  rw [Nat.add_mul, Nat.one_mul] at hq2
  exact ⟨rfl, by omega⟩
theorem guess_over {U D q g V N : Nat} (hq : q * D ≤ U) (hg1 : q ≤ g) (hg2 : g ≤ q + 1) (hV : V + g * D = U + N) (hVN : V < N) : g = q + 1 := by
  apply Nat.le_antisymm hg2
  apply Nat.lt_of_le_of_ne hg1
  intro e
  subst e
  omega
theorem guess_back {U D q V V2 N c : Nat} (hq : q * D ≤ U) (hq2 : U < (q + 1) * D) (_hDN : D ≤ N) (hV : V + (q + 1) * D = U + N) (hV2 : V2 + c * N = V + D) (hc : c ≤ 1) (hV2N : V2 < N) : V2 + q * D = U ∧ V2 < D := by
  rw [Nat.add_mul, Nat.one_mul] at hV hq2
  have hc1 : c = 1 := by
    by_cases h : c = 0
    · subst h; omega
    · omega
  subst hc1
  omega

theorem succ_times (a P : Nat) : (a + 1) * P = a * P + P := by rw [Nat.add_mul, Nat.one_mul]
theorem top_le {first second x0 x1 x2 D2 U3 : Nat} (hD2 : D2 = first * 4294967296 + second) (hU3 : U3 = (x0 * 4294967296 + x1) * 4294967296 + x2) (hs : second < 4294967296) (h : U3 < (D2 + 1) * 4294967296) : x0 ≤ first := by omega
theorem top_cut {U D U3 D2 P : Nat} (k1 : D < (D2 + 1) * P) (k4 : U3 * P ≤ U) (hU : U < D * 4294967296) : U3 < (D2 + 1) * 4294967296 := by
  have h1 : D * 4294967296 < (D2 + 1) * P * 4294967296 := Nat.mul_lt_mul_of_pos_right k1 (by decide)
  have h2 : (D2 + 1) * P * 4294967296 = (D2 + 1) * 4294967296 * P := by ac_rfl
  have h3 : U3 * P < (D2 + 1) * 4294967296 * P := by omega
  exact Nat.lt_of_mul_lt_mul_right h3

/-- The divisor's highest bit is set by the shift that its leading zeros tell. -/
theorem top_shift {x : Nat} (hx : x < 4294967296) (h0 : x ≠ 0) : bitLen x ≤ 32 ∧ 1 ≤ bitLen x ∧ 2147483648 ≤ x * 2 ^ (32 - bitLen x) ∧ x * 2 ^ (32 - bitLen x) < 4294967296 := by
  obtain ⟨h1, h2⟩ := bitLen_spec x
  have h2 := h2 h0
  have hb1 : 1 ≤ bitLen x := by
    apply Nat.lt_of_not_le
    intro h
    have : bitLen x = 0 := by omega
    rw [this] at h1
    omega
  have hb : bitLen x ≤ 32 := by
    apply Nat.le_of_not_lt
    intro h
    have : 2 ^ 32 ≤ 2 ^ (bitLen x - 1) := Nat.pow_le_pow_right (by decide) (by omega)
    omega
  refine ⟨hb, hb1, ?_, ?_⟩
  · have : 2 ^ (bitLen x - 1) * 2 ^ (32 - bitLen x) ≤ x * 2 ^ (32 - bitLen x) := Nat.mul_le_mul_right _ h2
    rw [← Nat.pow_add, show bitLen x - 1 + (32 - bitLen x) = 31 from by omega] at this
    exact this
  · have : x * 2 ^ (32 - bitLen x) < 2 ^ bitLen x * 2 ^ (32 - bitLen x) := Nat.mul_lt_mul_of_pos_right h1 (Nat.two_pow_pos _)
    rw [← Nat.pow_add, show bitLen x + (32 - bitLen x) = 32 from by omega] at this
    exact this

theorem shl_top {h df : Nat → Nat} {s n x : Nat} (hs : s < 32) (r : ShlRel h (2 ^ s) n df) (hn : 1 ≤ n) (hh : ∀ i, i < n → h i < 4294967296) (hx : h (n - 1) = x) (hx1 : x * 2 ^ s < 4294967296) (hx2 : 2147483648 ≤ x * 2 ^ s) :
    df n = 0 ∧ num 4294967296 df n = num 4294967296 h n * 2 ^ s ∧ num 4294967296 h n * 2 ^ s < 4294967296 ^ n ∧ 2147483648 ≤ df (n - 1) := by
  obtain ⟨r1, r2, r3, r4⟩ := r
  obtain ⟨k, rfl⟩ : ∃ k, n = k + 1 := ⟨n - 1, by omega⟩
  rw [Nat.add_sub_cancel] at hx ⊢
  have hp := pow_split s hs
  have hxl : x + 1 ≤ 2 ^ (32 - s) := by
    rw [← hp, Nat.mul_comm] at hx1
    exact Nat.lt_of_mul_lt_mul_left hx1
  have hx3 : (x + 1) * 2 ^ s ≤ 4294967296 := by
    have := Nat.mul_le_mul_right (2 ^ s) hxl
    rw [Nat.mul_comm (2 ^ (32 - s)), hp] at this
    exact this
  have hlo := num_lt (B := 4294967296) (f := h) (n := k) (fun i hi => hh i (by omega))
  have hBv : num 4294967296 h (k + 1) = num 4294967296 h k + x * 4294967296 ^ k := by rw [num_succ, hx]
  have hlt : num 4294967296 h (k + 1) * 2 ^ s < 4294967296 ^ (k + 1) := by
    have h1 : num 4294967296 h (k + 1) < (x + 1) * 4294967296 ^ k := by rw [hBv, Nat.add_mul, Nat.one_mul]; omega
    have h2 : num 4294967296 h (k + 1) * 2 ^ s < (x + 1) * 4294967296 ^ k * 2 ^ s := Nat.mul_lt_mul_of_pos_right h1 (Nat.two_pow_pos s)
    have h3 : (x + 1) * 4294967296 ^ k * 2 ^ s = (x + 1) * 2 ^ s * 4294967296 ^ k := by ac_rfl
    have h4 : (x + 1) * 2 ^ s * 4294967296 ^ k ≤ 4294967296 * 4294967296 ^ k := Nat.mul_le_mul_right _ hx3
    rw [Nat.pow_succ, Nat.mul_comm (4294967296 ^ k)]
    omega
  have hz : df (k + 1) = 0 := by
    apply Nat.eq_zero_of_not_pos
    intro hpos
    have h1 : 1 * 4294967296 ^ (k + 1) ≤ df (k + 1) * 4294967296 ^ (k + 1) := Nat.mul_le_mul_right _ hpos
    rw [num_succ] at r1
    omega
  have hn2 : num 4294967296 df (k + 1) = num 4294967296 h (k + 1) * 2 ^ s := by
    rw [num_succ, hz, Nat.zero_mul, Nat.add_zero] at r1
    exact r1
  refine ⟨hz, hn2, hlt, ?_⟩
  have h5 := num_lt (B := 4294967296) (f := df) (n := k) (fun i hi => r3 i (by omega))
  have h6 : x * 2 ^ s * 4294967296 ^ k ≤ num 4294967296 h (k + 1) * 2 ^ s := by
    rw [hBv]
    have : x * 4294967296 ^ k * 2 ^ s ≤ (num 4294967296 h k + x * 4294967296 ^ k) * 2 ^ s := Nat.mul_le_mul_right _ (by omega)
    have e : x * 4294967296 ^ k * 2 ^ s = x * 2 ^ s * 4294967296 ^ k := by ac_rfl
    omega
  rw [← hn2, num_succ] at h6
  have h7 : 2147483648 * 4294967296 ^ k ≤ x * 2 ^ s * 4294967296 ^ k := Nat.mul_le_mul_right _ hx2
  have h8 : 2147483648 * 4294967296 ^ k < (df k + 1) * 4294967296 ^ k := by rw [Nat.add_mul, Nat.one_mul]; omega
  have := Nat.lt_of_mul_lt_mul_right h8
  omega

theorem long_end {A Bv t Q V R e : Nat} (ht : 0 < t) (h1 : A * t = Q * (Bv * t) + V) (h2 : V < Bv * t) (h3 : t * R + e = V) (h4 : e < t) : Q = A / Bv ∧ R = A % Bv := by
  have h5 : A * t = (Q * Bv + R) * t + e := by
    rw [h1, ← h3, Nat.add_mul, ← Nat.mul_assoc, Nat.mul_comm R t]
    omega
  have he : e = 0 := by
    have h6 : A * t % t = 0 := Nat.mul_mod_left _ _
    rw [h5, Nat.mul_comm, Nat.mul_add_mod, Nat.mod_eq_of_lt h4] at h6
    exact h6
  subst he
  rw [Nat.add_zero] at h5 h3
  have hA : A = Q * Bv + R := Nat.eq_of_mul_eq_mul_right ht h5
  have hR : R < Bv := by
    rw [← h3, Nat.mul_comm] at h2
    exact Nat.lt_of_mul_lt_mul_right h2
  have hB : 0 < Bv := by omega
  rw [hA]
  constructor
  · rw [Nat.mul_comm, Nat.mul_add_div hB, Nat.div_eq_of_lt hR, Nat.add_zero]
  · rw [Nat.mul_comm, Nat.mul_add_mod, Nat.mod_eq_of_lt hR]

theorem long_start {A Bv t n m la : Nat} {h : Nat → Nat} (hm : n + m = la + 1) (hn : 1 ≤ n) (hA : A < 4294967296 ^ la) (hB : Bv = num 4294967296 h n) (htop : h (n - 1) ≠ 0) (ht : 0 < t) : A * t < Bv * t * 4294967296 ^ m := by
  have h1 := num_ge (B := 4294967296) (f := h) (n := n) (by omega) htop
  rw [← hB] at h1
  have h2 : 4294967296 ^ la ≤ Bv * 4294967296 ^ m := by
    have : 4294967296 ^ (n - 1) * 4294967296 ^ m ≤ Bv * 4294967296 ^ m := Nat.mul_le_mul_right _ h1
    rwa [← Nat.pow_add, show n - 1 + m = la from by omega] at this
  have h3 : A * t < Bv * 4294967296 ^ m * t := Nat.mul_lt_mul_of_pos_right (by omega) ht
  have h4 : Bv * 4294967296 ^ m * t = Bv * t * 4294967296 ^ m := by ac_rfl
  omega

set_option maxRecDepth 4000 in
set_option maxHeartbeats 400000 in
theorem leading_any (x : Nat) (w : World) (hx : x < 4294967296) (h0 : x ≠ 0) :
    Calls Tryd.prog 119 #[.int .u32 x] w fun e w' => e = .returned (.int .i64 (32 - bitLen x : Nat)) ∧ w' = w := by
  have hb := top_shift hx h0
  go_enter Tryd.func119, Tryd.ntmps119
  go_wp2_with (go_at_call 107; refine (len32_any x _ hx).mono ?_; rintro e w' ⟨rfl, rfl⟩)
  go_ret
  exact ⟨ret_len (by omega), rfl⟩

theorem RowAt.still {k : IntKind} {E : TypeId} {w w' : World} {g N n : Nat} {f : Nat → Nat} (h : RowAt k E w g N n f) (s : Still w w') : RowAt k E w' g N n f := h.block (by rw [s.heap])
theorem Still.below {B : Nat} {a w w' : World} (hb : Below B a w) (s : Still w w') : Below B a w' := hb.trans ⟨s.os, s.tape, s.output, by rw [s.heap]; exact Nat.le_refl _, fun k _ => by rw [s.heap]⟩

/-- One guess: the part's quotient, or 1 more. -/
theorem guess_part (g off N K g2 n cap cap2 : Nat) (f h : Nat → Nat) (w : World) (hr : RowAt .u32 64 w g N K f) (hoff : off + (n + 1) ≤ K) (hd : Rd .u32 w (some ⟨g2, 0, none⟩) n h) (hn : 2 ≤ n) (hnl : n ≤ 9000000000000000000)
    (hf : ∀ i, i < n + 1 → f (off + i) < 4294967296) (hh : ∀ i, i < n → h i < 4294967296) (htop : 2147483648 ≤ h (n - 1)) (hU : num 4294967296 (fun i => f (off + i)) (n + 1) < num 4294967296 h n * 4294967296) :
    Calls Tryd.prog 121 #[.slice (some ⟨g, off, none⟩) (n + 1) cap, .slice (some ⟨g2, 0, none⟩) n cap2] w fun e w' => ∃ gg : Nat, e = .returned (.int .u32 gg) ∧ Still w w' ∧ gg < 4294967296 ∧
      num 4294967296 (fun i => f (off + i)) (n + 1) / num 4294967296 h n ≤ gg ∧ gg ≤ num 4294967296 (fun i => f (off + i)) (n + 1) / num 4294967296 h n + 1 := by
  rcases hd with hd | ⟨b2, off2, e2, hc⟩
  · omega
  cases e2
  have hDpos : 0 < num 4294967296 h n := by
    have := num_ge (B := 4294967296) (f := h) (n := n) (by omega) (by omega)
    have : 0 < 4294967296 ^ (n - 1) := Nat.pos_of_ne_zero (by simp)
    omega
  have hqB : num 4294967296 (fun i => f (off + i)) (n + 1) / num 4294967296 h n < 4294967296 := by
    rw [Nat.div_lt_iff_lt_mul hDpos, Nat.mul_comm]
    exact hU
  have hq1 : num 4294967296 (fun i => f (off + i)) (n + 1) / num 4294967296 h n * num 4294967296 h n ≤ num 4294967296 (fun i => f (off + i)) (n + 1) := Nat.div_mul_le_self _ _
  have hq2 : num 4294967296 (fun i => f (off + i)) (n + 1) < (num 4294967296 (fun i => f (off + i)) (n + 1) / num 4294967296 h n + 1) * num 4294967296 h n := by
    have := Nat.lt_div_mul_add (a := num 4294967296 (fun i => f (off + i)) (n + 1)) hDpos
    rw [Nat.add_mul, Nat.one_mul]
    exact this
  -- the highest limbs
  have hD2 := num_hi2 4294967296 h n hn
  have hDlo := num_lt (B := 4294967296) (f := h) (n := n - 2) (fun i hi => hh i (by omega))
  have hU3 : num 4294967296 (fun i => f (off + i)) (n + 1) = num 4294967296 (fun i => f (off + i)) (n - 2) + 4294967296 ^ (n - 2) * ((f (off + n) * 4294967296 + f (off + (n - 1))) * 4294967296 + f (off + (n - 2))) := by
    rw [num_succ, num_hi2 4294967296 (fun i => f (off + i)) n hn]
    have e : (4294967296 : Nat) ^ n = 4294967296 ^ (n - 2) * (4294967296 * 4294967296) := by
      rw [show (4294967296 : Nat) * 4294967296 = 4294967296 ^ 2 from rfl, ← Nat.pow_add, show n - 2 + 2 = n from by omega]
    rw [e]
    generalize 4294967296 ^ (n - 2) = P
    generalize f (off + n) = x0
    generalize f (off + (n - 1)) = x1
    generalize f (off + (n - 2)) = x2
    have e2 : x0 * (P * (4294967296 * 4294967296)) = P * (x0 * 4294967296 * 4294967296) := by ac_rfl
    rw [e2, Nat.add_assoc, ← Nat.mul_add]
    congr 2
    omega
  have hUlo := num_lt (B := 4294967296) (f := fun i => f (off + i)) (n := n - 2) (fun i hi => hf i (by omega))
  have hPpos : 0 < 4294967296 ^ (n - 2) := Nat.pos_of_ne_zero (by simp)
  have c1 := hc (n - 1) (by omega)
  have c2 := hc (n - 2) (by omega)
  have c3 := hr.cell (i := off + n) (by omega)
  have c4 := hr.cell (i := off + (n - 1)) (by omega)
  have c5 := hr.cell (i := off + (n - 2)) (by omega)
  have b1 := hh (n - 1) (by omega)
  have b2 := hh (n - 2) (by omega)
  have b3 := hf n (by omega)
  have b4 := hf (n - 1) (by omega)
  have b5 := hf (n - 2) (by omega)
  generalize num 4294967296 (fun i => f (off + i)) (n + 1) = U at *
  generalize num 4294967296 h n = D at *
  generalize h (n - 1) = first at *
  generalize h (n - 2) = second at *
  generalize f (off + n) = x0 at *
  generalize f (off + (n - 1)) = x1 at *
  generalize f (off + (n - 2)) = x2 at *
  generalize num 4294967296 (fun i => f (off + i)) (n - 2) = ulo at *
  generalize num 4294967296 h (n - 2) = dlo at *
  generalize 4294967296 ^ (n - 2) = P at *
  obtain ⟨D2, hD2e⟩ : ∃ D2, D2 = first * 4294967296 + second := ⟨_, rfl⟩
  obtain ⟨U3, hU3e⟩ : ∃ U3, U3 = (x0 * 4294967296 + x1) * 4294967296 + x2 := ⟨_, rfl⟩
  have hDD : D = dlo + D2 * P := by rw [hD2, hD2e, Nat.mul_comm P, Nat.add_comm second]
  have hUU : U = ulo + U3 * P := by rw [hU3, hU3e, Nat.mul_comm P]
  have k1 : D < (D2 + 1) * P := by rw [succ_times]; omega
  have k2 : D2 * P ≤ D := by omega
  have k3 : U < (U3 + 1) * P := by rw [succ_times]; omega
  have k4 : U3 * P ≤ U := by omega
  have hql := guess_lo (q := U / D) k3 k2 hq1
  have hx0 : x0 ≤ first := top_le hD2e hU3e b2 (top_cut k1 k4 hU)
  have hbig : 4294967296 ≤ D2 := by omega
  refine (guess_core g off g2 0 n (n - 1) (n - 2) cap cap2 first second x0 x1 x2 (x0 * 4294967296 + x1) (U / D) w rfl (by omega) (by omega) hnl c1 c2 c3 c4 c5 b1 b2 b3 b4 b5 (by omega) (by rw [← hD2e, ← hU3e]; exact hql) hqB hx0).mono ?_
  rintro e w' ⟨gg, rfl, hs, g1, g2', g3⟩
  rw [← hD2e, ← hU3e] at g3
  exact ⟨gg, rfl, hs, g2', g1, guess_hi k4 k1 hq2 g3 hbig hqB⟩

theorem Only.row {k : IntKind} {E : TypeId} {w w' : World} {g g2 N n : Nat} {f : Nat → Nat} (h : RowAt k E w g2 N n f) (o : Only g w w') (hne : g2 ≠ g) : RowAt k E w' g2 N n f := h.block (o.block g2 hne)
theorem RowAt.set_other {k : IntKind} {E : TypeId} {w : World} {g g2 N n i : Nat} {f : Nat → Nat} {u : Value} (h : RowAt k E w g2 N n f) (hne : g2 ≠ g) : RowAt k E (w.setCell ⟨g, i, none⟩ u) g2 N n f := h.block (heap_setCell_other _ _ _ _ hne)

set_option maxRecDepth 4000 in
set_option maxHeartbeats 4000000 in
theorem divideLong_any (ao bo : Option Addr) (la n m capa capb : Nat) (f h : Nat → Nat) (w : World) (ha : Rd .u32 w ao la f) (hb : Rd .u32 w bo n h) (hm : n + m = la + 1) (hm1 : 1 ≤ m) (hn : 2 ≤ n) (hla : 4 * (la + 1) ≤ 281474976710656)
    (hf : ∀ i, i < la → f i < 4294967296) (hh : ∀ i, i < n → h i < 4294967296) (htop : h (n - 1) ≠ 0) :
    Calls Tryd.prog 105 #[.slice ao la capa, .slice bo n capb] w fun e w' => Hid (∃ (g3 g4 : Nat) (qf rf : Nat → Nat), e = .returned (.tuple #[.slice (some ⟨g3, 0, none⟩) m m, .slice (some ⟨g4, 0, none⟩) n n]) ∧ w.heap.size ≤ g3 ∧ w.heap.size ≤ g4 ∧ g3 ≠ g4 ∧
      RowAt .u32 64 w' g3 m m qf ∧ RowAt .u32 64 w' g4 n n rf ∧ Below w.heap.size w w' ∧ (∀ i, i < m → qf i < 4294967296) ∧ (∀ i, i < n → rf i < 4294967296) ∧
      num 4294967296 qf m = num 4294967296 f la / num 4294967296 h n ∧ num 4294967296 rf n = num 4294967296 f la % num 4294967296 h n) := by
  have hxl := hh (n - 1) (by omega)
  obtain ⟨t1, t2, t3, t4⟩ := top_shift hxl htop
  obtain ⟨s, hse⟩ : ∃ s, s = 32 - bitLen (h (n - 1)) := ⟨_, rfl⟩
  have hs : s < 32 := by omega
  rw [← hse] at t3 t4
  rcases id hb with hb0 | ⟨b2, off2, eb, hcb⟩
  · omega
  subst eb
  have hcx := hcb (n - 1) (by omega)
  have HLZ := hide (fun (w' : World) => leading_any (h (n - 1)) w' hxl htop)
  rw [← hse] at HLZ
  have hA := num_lt hf
  have HST := hide (long_start (h := h) hm (by omega) hA rfl htop (Nat.two_pow_pos s))
  have HTOP := hide (fun (df : Nat → Nat) (r : ShlRel h (2 ^ s) n df) => shl_top hs r (by omega) hh rfl t4 t3)
  clear hse t1 t2 t3 t4 hA hcb
  generalize h (n - 1) = x at hcx HLZ hxl
  go_enter Tryd.func105, Tryd.ntmps105
  go_wp2_with fail
  refine (unhide HLZ _).mono ?_
  rintro e w0 ⟨rfl, rfl⟩
  clear HLZ hcx
  go_wp2_with fail
  refine (shiftLeft_any _ la _ s f _ ha hf hla hs (by omega)).mono ?_
  rintro e w1 ⟨rf0, rfl, hr1, hb1, hsh1⟩
  have hsz1 := hb1.size
  have hlt1 := hr1.lt
  go_wp2_with fail
  refine (shiftLeft_any _ n _ s h _ (hb.below hb1 (Nat.le_refl _)) hh (by omega) hs (by omega)).mono ?_
  rintro e w2 ⟨df, rfl, hr2, hb2, hsh2⟩
  have hsz2 := hb2.size
  have hlt2 := hr2.lt
  obtain ⟨d0, d1, d2, d3⟩ := unhide HTOP df hsh2
  have hdd := hsh2.2.2.1
  have hd1 := hsh1.1
  have hdd1 := hsh1.2.2.1
  have HD1 := hide d1
  have HD2 := hide d2
  have HD3 := hide d3
  have HH1 := hide hd1
  clear hsh1 hsh2 HTOP d0 d1 d2 d3 hd1
  go_wp2_with (at_make; refine wpList_mkU rfl _ _ rfl .i64 .i64 _ _ m rfl rfl (by omega) (by omega) (by omega) ?_; intro w3 hr3 hb3)
  have R1 := (hr1.block (hb2.block _ hlt1)).block (hb3.block _ (by omega))
  have R2 := hr2.block (hb3.block _ hlt2)
  have hsz3 := hb3.size
  have B3 : Below w0.heap.size w0 w3 := (hb1.trans (hb2.mono (by omega))).trans (hb3.mono (by omega))
  have n12 : w0.heap.size ≠ w1.heap.size := by omega
  have n13 : w0.heap.size ≠ w2.heap.size := by omega
  have n23 : w1.heap.size ≠ w2.heap.size := by omega
  have l2 : w0.heap.size ≤ w1.heap.size := hsz1
  have l3 : w0.heap.size ≤ w2.heap.size := by omega
  clear hr1 hr2 hb1 hb2 hb3 hlt1 hlt2 hsz2
  generalize hG1 : w0.heap.size = g1 at *
  generalize hG2 : w1.heap.size = g2 at *
  generalize hG3 : w2.heap.size = g3 at *
  have hdd' : ∀ i, i < n → df i < 4294967296 := fun i hi => hdd i (by omega)
  have HDP : Hid (num 4294967296 df n < 4294967296 ^ n) := hide (by rw [unhide HD1]; exact unhide HD2)
  have HSTART : Hid (LongRel (num 4294967296 f la * 2 ^ s) (num 4294967296 df n) n m m (fun _ => 0) rf0) := hide (by
    refine ⟨?_, ?_, fun i hi => hdd1 i (by omega), fun i h1 h2 => by omega⟩
    · rw [hm, unhide HH1, unhide HD1]; exact unhide HST
    · rw [hm, unhide HH1]; simp [num])
  have hDpos : 0 < num 4294967296 df n := by
    have := num_ge (B := 4294967296) (f := df) (n := n) (by omega) (by have := unhide HD3; omega)
    have : 0 < 4294967296 ^ (n - 1) := Nat.pos_of_ne_zero (by simp)
    omega
  have HG1 := hide hG1
  clear hdd1 HST HH1 hG1 hG2 hG3
  go_loopw [10] (fun t10 wr => ∃ (j : Nat) (qf rf : Nat → Nat), j ≤ m ∧ t10 = .int .i64 ((j : Int) - 1) ∧ RowAt .u32 64 wr g1 (la + 1) (la + 1) rf ∧ RowAt .u32 64 wr g2 (n + 1) (n + 1) df ∧ RowAt .u32 64 wr g3 m m qf ∧ Below g1 w0 wr ∧ LongRel (num 4294967296 f la * 2 ^ s) (num 4294967296 df n) n m j qf rf) (fun t10 _ => (intOf t10 + 1).toNat)
  case atStart => exact ⟨m, fun _ => 0, rf0, Nat.le_refl _, rfl, R1, R2, hr3, B3, unhide HSTART⟩
  case round =>
    obtain ⟨j, qf, rf, hj, rfl, r1, r2, r3, hbel, hrl⟩ := hrel
    clear R1 R2 hr3 B3 HSTART
    by_cases hj0 : j = 0
    · subst hj0
      obtain ⟨z1, z2⟩ := hrl.done (unhide HDP)
      have HZ1 := hide z1
      have HZ2 := hide z2
      have hrd := hrl.2.2.1
      have hqd := hrl.2.2.2
      clear z1 z2 hrl
      go_wp2_with fail
      refine (shiftRight_any _ n _ s rf _ ((r1.mono (by omega)).rd) (fun i hi => hrd i (by omega)) (by omega) hs (by omega)).mono ?_
      rintro e w5 ⟨f5, rfl, r5, b5, hsr⟩
      have hlt3 := r3.lt
      have r3' := r3.block (b5.block _ hlt3)
      have hsz5 := hbel.size
      have hlt1 := r1.lt
      have HSR := hide hsr
      have B5 : Below g1 w0 w5 := hbel.trans (b5.mono (by omega))
      have ne5 : g3 ≠ wr.heap.size := by omega
      clear hsr hbel r1 r2 r3
      go_wp2_with fail
      go_ret2
      refine hide ⟨g3, wr.heap.size, qf, f5, rfl, by rw [unhide HG1]; omega, by rw [unhide HG1]; omega, ne5, r3', r5, by rw [unhide HG1]; exact B5, fun i hi => hqd i (by omega) hi, (unhide HSR).2, ?_⟩
      have hE := long_end (A := num 4294967296 f la) (Bv := num 4294967296 h n) (Q := num 4294967296 qf m) (V := num 4294967296 rf n) (R := num 4294967296 f5 n) (Nat.two_pow_pos s) (e := cut rf n 0 % 2 ^ s) (by rw [← unhide HD1]; exact unhide HZ2) (by rw [← unhide HD1]; exact unhide HZ1)
        (by rw [(unhide HSR).1, cut_out (Nat.le_refl _), Nat.zero_mod, Nat.zero_mul, Nat.add_zero]; exact num_congr (fun i hi => cut_in hi)) (Nat.mod_lt _ (Nat.two_pow_pos s))
      exact hE
    · obtain ⟨i, rfl⟩ : ∃ i, j = i + 1 := ⟨j - 1, by omega⟩
      obtain ⟨p1, p2, p3⟩ := hrl.parts (by omega) (unhide HDP)
      have hrd := hrl.2.2.1
      have HRL := hide hrl
      have hpart : ∀ k, k < n + 1 → rf (i + k) < 4294967296 := fun k hk => hrd (i + k) (by omega)
      have rd2 : Rd .u32 wr (some ⟨g2, 0, none⟩) n df := (r2.mono (by omega)).rd
      clear hrl p2 p3 hrd
      rw [show (((i + 1 : Nat) : Int) - 1) = (i : Int) from by omega]
      go_wp2_with fail
      rw [show i + n + 1 - i = n + 1 from by omega]
      refine (guess_part g1 i (la + 1) (la + 1) g2 n _ _ rf df _ r1 (by omega) rd2 hn (by omega) hpart hdd' (unhide HD3) p1).mono ?_
      rintro e w4 ⟨gg, rfl, st, gl, gq1, gq2⟩
      have r1' := r1.still st
      have r2' := r2.still st
      have r3' := r3.still st
      have rd2' : Rd .u32 w4 (some ⟨g2, 0, none⟩) n df := (r2'.mono (by omega)).rd
      have hbel' := Still.below hbel st
      have HU1 := hide (Nat.div_mul_le_self (num 4294967296 (fun k => rf (i + k)) (n + 1)) (num 4294967296 df n))
      have HU2 : Hid (num 4294967296 (fun k => rf (i + k)) (n + 1) < (num 4294967296 (fun k => rf (i + k)) (n + 1) / num 4294967296 df n + 1) * num 4294967296 df n) := hide (by
        have := Nat.lt_div_mul_add (a := num 4294967296 (fun k => rf (i + k)) (n + 1)) hDpos
        rw [Nat.add_mul, Nat.one_mul]
        exact this)
      have HQB : Hid (num 4294967296 (fun k => rf (i + k)) (n + 1) / num 4294967296 df n < 4294967296) := hide (by
        rw [Nat.div_lt_iff_lt_mul hDpos, Nat.mul_comm]; exact p1)
      clear r1 r2 r3 rd2 hbel st p1
      go_wp2_with fail
      refine (takeTimes_any g1 i (la + 1) (la + 1) n _ _ gg rf df _ _ r1' (by omega) rd2' (fun a e _ => by cases e; exact n12.symm) (by omega) gl hpart hdd' (by omega)).mono ?_
      rintro e w5 ⟨bb, f5, rfl, hbb, r15, o5, ho5, hd5, hn5⟩
      have r25 := Only.row r2' o5 n12.symm
      have r35 := Only.row r3' o5 n13.symm
      have B5 := Only.below hbel' o5 (Nat.le_refl _)
      have HN5 := hide hn5
      have HO5 := hide ho5
      clear r1' r2' r3' rd2' hbel' o5 hn5 ho5
      by_cases hb0 : bb = 0
      · subst hb0
        have hv : num 4294967296 (fun k => f5 (i + k)) (n + 1) + gg * num 4294967296 df n = num 4294967296 (fun k => rf (i + k)) (n + 1) := by have := unhide HN5; omega
        obtain ⟨e1, e2⟩ := guess_right (unhide HU1) (unhide HU2) gq1 gq2 hv
        have HST := hide ((unhide HRL).step (q := gg) (U' := num 4294967296 (fun k => f5 (i + k)) (n + 1)) (by omega) (unhide HDP) gl (unhide HO5) hd5 rfl hv e2)
        have hfr := r35.free i
        have hcq := r35.cell (i := i) (by omega)
        have HR3 := hide (r35.set (i := i) (by omega) gg)
        have HR1 := hide (RowAt.set_other (i := i) (u := .int .u32 gg) r15 n13)
        have HR2 := hide (RowAt.set_other (i := i) (u := .int .u32 gg) r25 n23)
        have HB := hide (B5.setCell (p := ⟨g3, i, none⟩) (show g1 ≤ g3 by omega) (.int .u32 gg))
        clear hv e1 e2 r15 r25 r35 B5 hpart hd5
        go_wp2_with fail
        go_roundw
        case rel => exact ⟨i, _, f5, by omega, by go_num, unhide HR1, unhide HR2, unhide HR3, unhide HB, unhide HST⟩
        case measure => simp [intOf]
      · obtain rfl : bb = 1 := by omega
        have hg1 := guess_over (V := num 4294967296 (fun k => f5 (i + k)) (n + 1)) (N := 4294967296 ^ (n + 1)) (unhide HU1) gq1 gq2 (by have := unhide HN5; omega) (num_lt hd5)
        have hgp : 1 ≤ gg := by rw [hg1]; exact Nat.le_add_left 1 _
        have HG := hide hg1
        clear hg1
        have rd25 : Rd .u32 w5 (some ⟨g2, 0, none⟩) n df := (r25.mono (by omega)).rd
        go_wp2_with fail
        refine (addInto_any g1 i (la + 1) (la + 1) (n + 1) n _ _ f5 df _ _ r15 (by omega) rd25 (fun a e _ => by cases e; exact n12.symm) (by omega) (by omega) hd5 hdd').mono ?_
        rintro e w6 ⟨f6, c6, rfl, r16, o6, hrel6⟩
        obtain ⟨q1, q2, q3, q4⟩ := hrel6
        rw [num_cut (by omega)] at q4
        have hlt6 := num_lt q3
        have hDN : num 4294967296 df n ≤ 4294967296 ^ (n + 1) := Nat.le_trans (Nat.le_of_lt (unhide HDP)) (Nat.pow_le_pow_right (by decide) (by omega))
        obtain ⟨e1, e2⟩ := guess_back (unhide HU1) (unhide HU2) hDN (by have := unhide HN5; rw [← unhide HG]; omega) q4 q1 hlt6
        have HST := hide ((unhide HRL).step (q := gg - 1) (f' := f6) (U' := num 4294967296 (fun k => f6 (i + k)) (n + 1)) (by omega) (unhide HDP) (by omega) (fun k hk => by rw [q2 k hk]; exact unhide HO5 k hk) q3 rfl (by rw [show gg - 1 = num 4294967296 (fun k => rf (i + k)) (n + 1) / num 4294967296 df n from by rw [unhide HG, Nat.add_sub_cancel]]; exact e1) e2)
        have r26 := Only.row r25 o6 n12.symm
        have r36 := Only.row r35 o6 n13.symm
        have B6 := Only.below B5 o6 (Nat.le_refl _)
        have hfr := r36.free i
        have hcq := r36.cell (i := i) (by omega)
        have HR3 := hide (r36.set (i := i) (by omega) (gg - 1))
        have HR1 := hide (RowAt.set_other (i := i) (u := .int .u32 (gg - 1 : Nat)) r16 n13)
        have HR2 := hide (RowAt.set_other (i := i) (u := .int .u32 (gg - 1 : Nat)) r26 n23)
        have HB := hide (B6.setCell (p := ⟨g3, i, none⟩) (show g1 ≤ g3 by omega) (.int .u32 (gg - 1 : Nat)))
        have HGG := hide (show ((gg : Int) - 1) = ((gg - 1 : Nat) : Int) by omega)
        clear e1 e2 r15 r25 r35 B5 hpart hd5 q2 q3 q4 hlt6 hDN r16 r26 r36 B6 o6 rd25
        go_wp2_with fail
        go_roundw
        case rel =>
          rw [unhide HGG]
          exact ⟨i, _, f6, by omega, by go_num, unhide HR1, unhide HR2, unhide HR3, unhide HB, unhide HST⟩
        case measure => simp [intOf]

end Go.Proofs.YtjbocfhmfidjjaaDoor
