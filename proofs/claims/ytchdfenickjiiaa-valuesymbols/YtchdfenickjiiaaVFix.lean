/-
  What is proved here: the program's and the document's fixnums (Fix, Int) answer alike.
-/
import Derived.Test.YtchdfenickjiiaaHHeap6
namespace Go.Proofs.Ytchdfenickjiiaa
open Go Go.RowKit

/-- A fixnum's word. -/
def fixW (z : Int) : Int := (4 * z + 1) % 18446744073709551616

theorem ret2 {k : IntKind} {a b : Int} {v : Value} (h : a = b) : Ending.returned (.tuple #[.int k a, v]) = .returned (.tuple #[.int k b, v]) := by rw [h]
theorem u64w (x : Int) : IntKind.u64.wrap x = x % 18446744073709551616 := by
  simp only [IntKind.wrap, IntKind.bits, IntKind.signed]
  simp

set_option maxRecDepth 20000 in
theorem vfix_no (z : Int) (w : World) (h : z < -2305843009213693952 ∨ 2305843009213693951 < z) :
    Calls Try.prog 10 #[.int .i64 z] w fun e w' => e = .returned (.tuple #[.int .u64 0, .bool false]) ∧ w' = w := by
  by_cases h1 : z < -2305843009213693952
  · go_enter Try.func10, Try.ntmps10
    go_wp2
    go_ret2
    exact ⟨rfl, rfl⟩
  · have h2 : 2305843009213693951 < z := by omega
    go_enter Try.func10, Try.ntmps10
    go_wp2
    go_ret2
    exact ⟨rfl, rfl⟩

set_option maxRecDepth 20000 in
theorem rfix_no (z : Int) (w : World) (h : z < -2305843009213693952 ∨ 2305843009213693951 < z) :
    Calls Try.prog 11 #[.int .i64 z] w fun e w' => e = .returned (.tuple #[.int .u64 0, .bool false]) ∧ w' = w := by
  by_cases h1 : z < -2305843009213693952
  · go_enter Try.func11, Try.ntmps11
    go_wp2
    go_ret2
    exact ⟨rfl, rfl⟩
  · have h2 : 2305843009213693952 ≤ z := by omega
    go_enter Try.func11, Try.ntmps11
    go_wp2
    go_ret2
    exact ⟨rfl, rfl⟩

set_option maxRecDepth 20000 in
theorem vfix_yes (z : Int) (w : World) (h1 : -2305843009213693952 ≤ z) (h2 : z ≤ 2305843009213693951) :
    Calls Try.prog 10 #[.int .i64 z] w fun e w' => e = .returned (.tuple #[.int .u64 (fixW z), .bool true]) ∧ w' = w := by
  go_enter Try.func10, Try.ntmps10
  go_wp2
  go_ret2
  refine ⟨ret2 ?_, rfl⟩
  obtain ⟨q, hq, hql⟩ : ∃ q : Nat, IntKind.u64.wrap (IntKind.u64.wrap z * 4) = ((4 * q : Nat) : Int) ∧ 4 * q < 18446744073709551616 := by
    rw [u64w, u64w]
    exact ⟨((z % 18446744073709551616 * 4) % 18446744073709551616 / 4).toNat, by omega, by omega⟩
  rw [hq, show (1 : Int) = ((1 : Nat) : Int) from rfl, u64_or_nat _ _ (by omega) (by decide), nat_join 2 _ _ (by omega) (by decide)]
  rw [u64w, u64w] at hq
  unfold fixW
  omega

set_option maxRecDepth 20000 in
theorem rfix_yes (z : Int) (w : World) (h1 : -2305843009213693952 ≤ z) (h2 : z ≤ 2305843009213693951) :
    Calls Try.prog 11 #[.int .i64 z] w fun e w' => e = .returned (.tuple #[.int .u64 (fixW z), .bool true]) ∧ w' = w := by
  go_enter Try.func11, Try.ntmps11
  go_wp2
  go_ret2
  refine ⟨ret2 ?_, rfl⟩
  rw [u64w, u64w, u64w]
  unfold fixW
  omega

/-- What a fixnum's word says. -/
def intW (x : Nat) : Int := wrap64 (x : Int) / 4

set_option maxRecDepth 20000 in
theorem vint_any (x : Nat) (w : World) (h : x < 18446744073709551616) :
    Calls Try.prog 12 #[.int .u64 (x : Int)] w fun e w' => e = .returned (.tuple (if x % 4 = 1 then #[.int .i64 (intW x), .bool true] else #[.int .i64 0, .bool false])) ∧ w' = w := by
  have ha : bits BinOp.and IntKind.u64 (x : Int) 3 = ((x % 4 : Nat) : Int) := and_2 x h
  by_cases hm : x % 4 = 1
  · rw [if_pos hm]
    rw [hm] at ha
    go_enter Try.func12, Try.ntmps12
    go_wp2
    go_ret2
    exact ⟨rfl, rfl⟩
  · rw [if_neg hm]
    obtain ⟨r, hr⟩ : ∃ r, x % 4 = r := ⟨_, rfl⟩
    rw [hr] at ha hm
    have hne : ((r : Int) != 1) = true := by rw [bne_iff_ne]; omega
    go_enter Try.func12, Try.ntmps12
    go_wp2
    go_ret2
    exact ⟨rfl, rfl⟩

set_option maxRecDepth 20000 in
theorem rint_any (x : Nat) (w : World) (_h : x < 18446744073709551616) :
    Calls Try.prog 13 #[.int .u64 (x : Int)] w fun e w' => e = .returned (.tuple (if x % 4 = 1 then #[.int .i64 (intW x), .bool true] else #[.int .i64 0, .bool false])) ∧ w' = w := by
  by_cases hm : x % 4 = 1
  · rw [if_pos hm]
    have h1 : (x : Int) % 4 = 1 := by omega
    have h2 : (x : Int).tmod 4 = 1 := by rw [Int.tmod_eq_emod_of_nonneg (by omega)]; exact h1
    go_enter Try.func13, Try.ntmps13
    go_wp2
    go_ret2
    exact ⟨rfl, rfl⟩
  · rw [if_neg hm]
    obtain ⟨r, hr⟩ : ∃ r, x % 4 = r := ⟨_, rfl⟩
    have h1 : (x : Int) % 4 = (r : Int) := by omega
    have h2 : (x : Int).tmod 4 = (r : Int) := by rw [Int.tmod_eq_emod_of_nonneg (by omega)]; exact h1
    have hne : ((r : Int) != 1) = true := by rw [bne_iff_ne]; omega
    clear hr hm
    go_enter Try.func13, Try.ntmps13
    go_wp2
    go_ret2
    exact ⟨rfl, rfl⟩

end Go.Proofs.Ytchdfenickjiiaa
