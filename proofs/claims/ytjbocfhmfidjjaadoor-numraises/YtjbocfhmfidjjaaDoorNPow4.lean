/-
  What is proved here: what the heads of a power's prefixes say of the power; no walk.
-/
import Derived.Test.YtjbocfhmfidjjaaDoorNPow3
namespace Go.Proofs.YtjbocfhmfidjjaaDoor
open Go Go.RowKit

theorem bitLen_mono {x y : Nat} (h : x ≤ y) : bitLen x ≤ bitLen y := by
  unfold bitLen
  split
  · omega
  · rename_i hx
    rw [if_neg (by omega)]
    have : x.log2 ≤ y.log2 := by
      rw [Nat.le_log2 (by omega)]
      exact Nat.le_trans (Nat.log2_self_le hx) h
    omega
theorem bitLen_up {h : Nat} (hh : 0 < h) : ∀ c, bitLen (h * 4294967296 ^ c) = bitLen h + 32 * c
  | 0 => by simp
  | c + 1 => by
    have h1 : 0 < h * 4294967296 ^ c := Nat.mul_pos hh (Nat.pow_pos (by decide))
    have e : h * 4294967296 ^ (c + 1) / 2 ^ 32 = h * 4294967296 ^ c := by
      rw [Nat.pow_succ, ← Nat.mul_assoc]
      exact Nat.mul_div_cancel _ (by decide)
    have := bitLen_shift (h * 4294967296 ^ (c + 1)) 32 (by rw [e]; omega)
    rw [this, e, bitLen_up hh c]
    omega

/-- The head (h, c) of the power m of X. -/
structure PwI (X : Nat) (big : Prop) (m h c : Nat) : Prop where
  low : h * 4294967296 ^ c ≤ X ^ m
  eq : big → c = 0 ∧ h = X ^ m
  pos : 0 < X → 0 < h
  zero : X = 0 → c = 0 ∧ h ≤ 1
theorem PwI.one (X : Nat) (big : Prop) : PwI X big 0 1 0 := ⟨by simp, fun _ => ⟨rfl, by simp⟩, fun _ => by decide, fun _ => ⟨rfl, Nat.le_refl _⟩⟩
theorem PwI.times {X : Nat} {big : Prop} {m h c m' h' c' x : Nat} (p : PwI X big m h c) (q : PwI X big m' h' c') (hp : 0 < h * h' → 0 < h * h' / 4294967296 ^ x) (hb : big → x = 0) (hs : h * h' < 4294967296 → x = 0) : PwI X big (m + m') (h * h' / 4294967296 ^ x) (c + c' + x) := by
  refine ⟨?_, fun b => ?_, fun h0 => hp (Nat.mul_pos (p.pos h0) (q.pos h0)), fun h0 => ?_⟩
  · rw [Nat.pow_add, Nat.pow_add, Nat.pow_add, ← Nat.mul_assoc, Nat.mul_right_comm]
    have h1 : h * h' / 4294967296 ^ x * 4294967296 ^ x ≤ h * h' := Nat.div_mul_le_self _ _
    calc h * h' / 4294967296 ^ x * 4294967296 ^ x * (4294967296 ^ c * 4294967296 ^ c') ≤ h * h' * (4294967296 ^ c * 4294967296 ^ c') := Nat.mul_le_mul_right _ h1
      _ = (h * 4294967296 ^ c) * (h' * 4294967296 ^ c') := by ac_rfl
      _ ≤ X ^ m * X ^ m' := Nat.mul_le_mul p.low q.low
  · obtain ⟨e1, e2⟩ := p.eq b
    obtain ⟨e3, e4⟩ := q.eq b
    rw [hb b, e1, e3, e2, e4, Nat.pow_zero, Nat.div_one, Nat.pow_add]
    exact ⟨rfl, rfl⟩
  · obtain ⟨e1, e2⟩ := p.zero h0
    obtain ⟨e3, e4⟩ := q.zero h0
    have h1 : h * h' ≤ 1 := Nat.mul_le_mul e2 e4
    have hx := hs (by omega)
    rw [hx, e1, e3, Nat.pow_zero, Nat.div_one]
    exact ⟨rfl, h1⟩
/-- A head that has too many digits: so has the power. -/
theorem PwI.over {X : Nat} {big : Prop} {m h c n limit : Nat} (p : PwI X big m h c) (hmn : m ≤ n) (hm : 0 < m ∨ m = n) (ho : limit < 32 * c + bitLen h) : limit < bitLen (X ^ n) := by
  rcases Nat.eq_zero_or_pos X with e | e
  · obtain ⟨e1, e2⟩ := p.zero e
    have h1 := p.low
    rw [e1, Nat.pow_zero, Nat.mul_one] at h1
    rw [e1] at ho
    rcases hm with hm | hm
    · exfalso
      rw [e, Nat.zero_pow hm] at h1
      have : h = 0 := by omega
      rw [this, bitLen_zero] at ho
      omega
    · rw [← hm]
      have := bitLen_mono h1
      omega
  · have h1 := bitLen_up (p.pos e) c
    have h2 := bitLen_mono p.low
    have h3 := bitLen_mono (Nat.pow_le_pow_right e hmn)
    omega

end Go.Proofs.YtjbocfhmfidjjaaDoor
