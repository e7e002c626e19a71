/-
  What is proved here: what package check reckons without memory: what lies within bounds, what an operand counts, how many values are popped; the tables of needs and of primitives.
-/
import Derived.Test.YtmogglmofbbjlaaKModel
import Derived.Test.YtmogglmofbbjlaaHBase
import Derived.Test.YtmogglmofbbjlaaProg
import Derived.Deep.QuietTactic
import Derived.BigQuiet
import Derived.KernelRfl
namespace Go.Proofs.Ytmogglmofbbjlaa
open Go Go.RowKit

theorem retI {k : IntKind} {a b : Int} (h : a = b) : Ending.returned (.int k a) = .returned (.int k b) := by rw [h]
theorem retB {a b : Bool} (h : a = b) : Ending.returned (.bool a) = .returned (.bool b) := by rw [h]

set_option maxRecDepth 20000 in
theorem within_any (n lo hi : Int) (w : World) :
    Calls Try.prog 30 #[.int .i64 n, .int .i64 lo, .int .i64 hi] w fun e w' => e = .returned (.bool (isIn n lo hi)) ∧ w' = w := by
  by_cases h1 : lo ≤ n
  · by_cases h2 : n ≤ hi
    · go_enter Try.func30, Try.ntmps30
      go_wp2
      go_ret
      exact ⟨retB (by simp [isIn, h1, h2]), rfl⟩
    · go_enter Try.func30, Try.ntmps30
      go_wp2
      go_ret
      exact ⟨retB (by simp [isIn, h1, h2]), rfl⟩
  · go_enter Try.func30, Try.ntmps30
    go_wp2
    go_ret
    exact ⟨retB (by unfold isIn; rw [decide_eq_false (by omega)]; rfl), rfl⟩

set_option maxRecDepth 20000 in
theorem counted_any (o : Nat) (x : Int) (w : World) :
    Calls Try.prog 41 #[.int .i64 (o : Int), .int .i64 x] w fun e w' => e = .returned (.int .i64 (cnt o x)) ∧ w' = w := by
  by_cases h8 : o = 8
  · subst h8
    go_enter Try.func41, Try.ntmps41
    go_wp2
    go_ret
    exact ⟨rfl, rfl⟩
  · by_cases h9 : o = 9
    · subst h9
      go_enter Try.func41, Try.ntmps41
      go_wp2
      go_ret
      exact ⟨rfl, rfl⟩
    · by_cases h10 : o = 10
      · subst h10
        go_enter Try.func41, Try.ntmps41
        go_wp2
        go_ret
        exact ⟨rfl, rfl⟩
      · have e8 : ((o : Int) == 8) = false := by rw [beq_eq_false_iff_ne]; omega
        have e9 : ((o : Int) == 9) = false := by rw [beq_eq_false_iff_ne]; omega
        have e10 : ((o : Int) == 10) = false := by rw [beq_eq_false_iff_ne]; omega
        have hc : Hid (cnt o x = 0) := by unfold Hid; simp [cnt, h8, h9, h10]
        clear h8 h9 h10
        go_enter Try.func41, Try.ntmps41
        go_wp2
        go_ret
        exact ⟨retI hc.out.symm, rfl⟩

/-- A need as a value, by the instruction's number. -/
def needV (k : Nat) : Value := .agg #[.int .i64 (nA k : Int), .int .i64 (nB k : Int), .int .i64 (nPop k : Int), .int .i64 (nPush k : Int), .bool (nEnd k)]

set_option maxRecDepth 20000 in
theorem popped_any (k : Nat) (o a b : Int) (w : World) (h1 : -4096 ≤ cnt (nA k) a) (h2 : cnt (nA k) a ≤ 4096) (h3 : -4096 ≤ cnt (nB k) b) (h4 : cnt (nB k) b ≤ 9223372036854775807) (h5 : popd k a b ≤ 9223372036854775807) :
    Calls Try.prog 34 #[needV k, .agg #[.int .i64 o, .int .i64 a, .int .i64 b]] w fun e w' => e = .returned (.int .i64 (popd k a b)) ∧ Fr (fun _ => False) w w' := by
  have hp : nPop k ≤ 2 := by
    unfold nPop
    by_cases h : k < 22
    · exact (by decide : ∀ k : Fin 22, [0, 0, 0, 0, 0, 1, 1, 1, 1, 2, 0, 1, 1, 1, 0, 1, 0, 1, 1, 1, 0, 0].getD k.1 0 ≤ 2) ⟨k, h⟩
    · rw [List.getD_eq_getElem?_getD, List.getElem?_eq_none (by simp; omega)]; decide
  unfold needV popd
  unfold popd at h5
  generalize nPop k = P at *
  generalize nA k = A at *
  generalize nB k = B at *
  go_enter Try.func34, Try.ntmps34
  go_wp2
  go_quiet ((go_at_call 41; exact Calls.quiet_of_same (counted_any _ _ _)))
  go_wp2
  go_ret
  exact ⟨rfl, (((Fr.refl _ _).alloc _).alloc _).drewN _⟩

end Go.Proofs.Ytmogglmofbbjlaa
