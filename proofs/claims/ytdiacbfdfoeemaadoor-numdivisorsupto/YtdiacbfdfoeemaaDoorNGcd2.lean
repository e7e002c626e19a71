/-
  What is proved here: num.Gcd of two numbers, said by their values.
-/
import Derived.Test.YtdiacbfdfoeemaaDoorNCon
import Derived.Test.YtdiacbfdfoeemaaDoorNGcd
namespace Go.Proofs.YtdiacbfdfoeemaaDoor
open Go Go.RowKit

theorem sgn_natAbs {b : Bool} {x : Nat} {X : Int} (h : sgn b x = X) : x = X.natAbs := by
  cases b <;> simp [sgn] at h <;> omega
theorem gcd2_rd {g : Nat} {b1 b2 : Bool} {v1 v2 : Value} {E : TypeId} {X Y : Int} {M : Nat} {w : World} (hg : w.heap[g]? = some (.cells #[.bool b1, v1, .bool b2, v2] E (0, 0))) (h : RdD X M w (.agg #[.bool b1, v1])) (k : RdD Y M w (.agg #[.bool b2, v2])) (hM : 4 * (M + 1) ≤ 281474976710656) :
    Calls Tryd.prog 38 #[.slice (some ⟨g, 0, none⟩) 2 2] w fun e w' => ∃ v, e = .returned v ∧ NumIn ((Nat.gcd X.natAbs Y.natAbs : Nat) : Int) M w' w.heap.size w'.heap.size v ∧ Up w w' := by
  obtain ⟨b, n, f, ⟨v, e, hn⟩, d, l, s⟩ := h
  cases e
  obtain ⟨c, m, q, ⟨v', e, hm⟩, d2, l2, s2⟩ := k
  cases e
  refine (gcdz_any _ 2 2 M (pair v1 v2) (pair b1 b2) (pair n m) (pair f q) w (rdn_blk hg) (lsts_two hn hm d d2 l l2) hM (by decide)).mono ?_
  rintro e w' H
  obtain ⟨a', b', n', f', rfl, o, u, c, l', s'⟩ := H
  refine ⟨a', rfl, ⟨b', n', f', CopIn.of o, c, l', ?_⟩, u⟩
  rw [s']
  simp [gcdN, pair, sgn_natAbs s, sgn_natAbs s2]
theorem dvd_rz {X G : Int} (h : G ∣ X) : rz X G = 0 := by
  unfold rz
  split
  · rfl
  · exact Int.tmod_eq_zero_of_dvd h
/-- What NumDivides asks of the numbers. -/
theorem divides_eq (a b g : Int) : rz (a * g) (Nat.gcd (a * g).natAbs (b * g).natAbs : Nat) = 0 ∧ rz (b * g) (Nat.gcd (a * g).natAbs (b * g).natAbs : Nat) = 0 ∧ rz ((Nat.gcd (a * g).natAbs (b * g).natAbs : Nat) : Int) g = 0 := by
  refine ⟨dvd_rz ?_, dvd_rz ?_, dvd_rz ?_⟩
  · exact Int.natAbs_dvd_natAbs.1 (by rw [Int.natAbs_natCast]; exact Nat.gcd_dvd_left _ _)
  · exact Int.natAbs_dvd_natAbs.1 (by rw [Int.natAbs_natCast]; exact Nat.gcd_dvd_right _ _)
  · refine Int.natAbs_dvd_natAbs.1 ?_
    rw [Int.natAbs_natCast]
    exact Nat.dvd_gcd (Int.natAbs_dvd_natAbs.2 (Int.dvd_mul_left _ _)) (Int.natAbs_dvd_natAbs.2 (Int.dvd_mul_left _ _))

end Go.Proofs.YtdiacbfdfoeemaaDoor
