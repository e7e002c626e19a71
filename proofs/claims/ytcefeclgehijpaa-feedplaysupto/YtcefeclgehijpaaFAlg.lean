/-
  What is proved here: joining masks and callees, as plain mathematics.
-/
import Derived.Laws.Entries
namespace Go.Proofs.Ytcefeclgehijpaa
open Go

/-- Masks joined. -/
def orI (a b : Int) : Int := bits BinOp.or IntKind.i64 a b
/-- Callees joined. -/
def jc (a b : Int) : Int := if a = -1 then max b (-2) else if b = -1 ∨ a = b then max a (-2) else -2

theorem orI_bv (a b : Int) : orI a b = (BitVec.ofInt 64 a ||| BitVec.ofInt 64 b).toInt := by
  show IntKind.i64.wrap ((BitVec.ofInt 64 a ||| BitVec.ofInt 64 b).toNat : Int) = _
  generalize BitVec.ofInt 64 a ||| BitVec.ofInt 64 b = v
  have h := v.isLt
  simp [IntKind.wrap, IntKind.bits, IntKind.signed, BitVec.toInt]
  split <;> split <;> omega
theorem bv_orI (a b : Int) : BitVec.ofInt 64 (orI a b) = BitVec.ofInt 64 a ||| BitVec.ofInt 64 b := by rw [orI_bv, BitVec.ofInt_toInt]
theorem orI_comm (a b : Int) : orI a b = orI b a := by rw [orI_bv, orI_bv, BitVec.or_comm]
theorem orI_assoc (a b c : Int) : orI (orI a b) c = orI a (orI b c) := by rw [orI_bv, bv_orI, orI_bv a, bv_orI, BitVec.or_assoc]
theorem orI_absorb (a b : Int) : orI (orI a b) a = orI a b := by
  rw [orI_bv, bv_orI, orI_bv, BitVec.or_comm, ← BitVec.or_assoc, BitVec.or_self]
theorem orI_twice (a b : Int) : orI (orI a b) (orI a b) = orI a b := by
  rw [orI_bv, bv_orI, BitVec.or_self, orI_bv]
theorem orI_zero (a : Int) (h1 : -9223372036854775808 ≤ a) (h2 : a ≤ 9223372036854775807) : orI 0 a = a := by
  rw [orI_bv]
  simp
  rw [Int.bmod_eq_of_le] <;> omega
theorem jc_comm (a b : Int) : jc a b = jc b a := by
  unfold jc
  repeat' split
  all_goals omega
theorem jc_ge (a b : Int) : -2 ≤ jc a b := by
  unfold jc
  repeat' split
  all_goals omega
theorem jc_assoc (a b c : Int) : jc (jc a b) c = jc a (jc b c) := by
  unfold jc
  grind
theorem jc_absorb (a b : Int) : jc (jc a b) a = jc a b := by
  unfold jc
  grind
theorem jc_twice (a b : Int) : jc (jc a b) (jc a b) = jc a b := by
  unfold jc
  grind

end Go.Proofs.Ytcefeclgehijpaa
