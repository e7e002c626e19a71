/-
  What is proved here: the statement ValueFixes' walk.
-/
import Derived.Test.YtenkidbimhmkbaaVAwake
namespace Go.Proofs.Ytenkidbimhmkbaa
open Go Go.RowKit

set_option maxRecDepth 20000 in
set_option maxHeartbeats 2000000 in
theorem valueFixes_walk (z : Int) (x : Int) (w : World) (_hz1 : -9223372036854775808 ≤ z) (_hz2 : z ≤ 9223372036854775807) (hx1 : 0 ≤ x) (hx2 : x ≤ 18446744073709551615) :
    Calls Try.prog 3 #[.int .i64 z, .int .u64 x] w fun e w' => e = .returned (.bool true) ∧ Below w.heap.size w w' := by
  obtain ⟨y, rfl⟩ : ∃ y : Nat, x = (y : Int) := ⟨x.toNat, by omega⟩
  have KI := fun w1 => vint_any y w1 (by omega)
  have KJ := fun w1 => rint_any y w1 (by omega)
  obtain ⟨a, b, KA, KB⟩ : ∃ a b, (∀ w1, Calls Try.prog 10 #[.int .i64 z] w1 fun e w' => e = .returned (.tuple #[.int .u64 a, .bool b]) ∧ w' = w1) ∧ (∀ w1, Calls Try.prog 11 #[.int .i64 z] w1 fun e w' => e = .returned (.tuple #[.int .u64 a, .bool b]) ∧ w' = w1) := by
    by_cases h : z < -2305843009213693952 ∨ 2305843009213693951 < z
    · exact ⟨_, _, fun w1 => vfix_no z w1 h, fun w1 => rfix_no z w1 h⟩
    · exact ⟨_, _, fun w1 => vfix_yes z w1 (by omega) (by omega), fun w1 => rfix_yes z w1 (by omega) (by omega)⟩
  obtain ⟨c, d, hcd⟩ : ∃ c d, (if y % 4 = 1 then #[Value.int .i64 (intW y), .bool true] else #[.int .i64 0, .bool false]) = #[.int .i64 c, .bool d] := by
    by_cases h : y % 4 = 1
    · exact ⟨_, _, if_pos h⟩
    · exact ⟨_, _, if_neg h⟩
  rw [hcd] at KI KJ
  clear hcd
  have e1 : (a == a) = true := by simp
  have e2 : (b == b) = true := by simp
  have e3 : (c == c) = true := by simp
  have e4 : (d == d) = true := by simp
  go_enter Try.func3, Try.ntmps3
  go_wp2_with (first
    | (go_at_call 10; refine (KA _).mono ?_; rintro e w1 ⟨rfl, hw⟩; replace hw := hw.symm; subst hw)
    | (go_at_call 11; refine (KB _).mono ?_; rintro e w1 ⟨rfl, hw⟩; replace hw := hw.symm; subst hw)
    | (go_at_call 12; refine (KI _).mono ?_; rintro e w1 ⟨rfl, hw⟩; replace hw := hw.symm; subst hw)
    | (go_at_call 13; refine (KJ _).mono ?_; rintro e w1 ⟨rfl, hw⟩; replace hw := hw.symm; subst hw)
    | (go_at_call 14; refine (vawake_any _).mono ?_; rintro e w1 ⟨rfl, F1⟩))
  go_ret
  exact ⟨rfl, F1.below (Nat.le_refl _) (fun _ _ e => e)⟩

end Go.Proofs.Ytenkidbimhmkbaa
