/-
  What is proved here: the document's own rules on operands and on how many values an instruction wants (tandemref11): in, named, wants.
-/
import Derived.Test.YtmogglmofbbjlaaKMem
namespace Go.Proofs.Ytmogglmofbbjlaa
open Go Go.RowKit

theorem isIn_lt (v : Int) (n : Int) : isIn v 0 (n - 1) = (decide (0 ≤ v) && decide (v < n)) := by
  unfold isIn
  rw [Bool.eq_iff_iff]
  simp
  omega
set_option maxRecDepth 20000 in
theorem rin_any (v n : Int) (w : World) :
    Calls Try.prog 19 #[.int .i64 v, .int .i64 n] w fun e w' => e = .returned (.bool (isIn v 0 (n - 1))) ∧ w' = w := by
  rw [isIn_lt]
  by_cases h1 : 0 ≤ v
  · by_cases h2 : v < n
    · go_enter Try.func19, Try.ntmps19
      go_wp2
      go_ret
      exact ⟨retB (by rw [decide_eq_true h1, decide_eq_true h2]; rfl), rfl⟩
    · have h3 : (decide (0 ≤ v) && decide (v < n)) = false := by rw [decide_eq_false h2, Bool.and_false]
      rw [h3]
      go_enter Try.func19, Try.ntmps19
      go_wp2
      go_ret
      exact ⟨rfl, rfl⟩
  · rw [decide_eq_false h1, Bool.false_and]
    go_enter Try.func19, Try.ntmps19
    go_wp2
    go_ret
    exact ⟨rfl, rfl⟩

/-- Which operands an instruction has. -/
def hasA (k : Nat) : Bool := !(nA k == 0)
def hasB (k : Nat) : Bool := !(nB k == 0)
/-- By how much the depth turns. -/
def rTurn (k : Nat) (a b : Int) : Int := if k = 12 ∨ k = 13 then 0 else nPush k - popd k a b
theorem ops_21 {k : Nat} (h1 : 1 ≤ k) (h2 : k < 22) : k = 1 ∨ k = 2 ∨ k = 3 ∨ k = 4 ∨ k = 5 ∨ k = 6 ∨ k = 7 ∨ k = 8 ∨ k = 9 ∨ k = 10 ∨ k = 11 ∨ k = 12 ∨ k = 13 ∨ k = 14 ∨ k = 15 ∨ k = 16 ∨ k = 17 ∨ k = 18 ∨ k = 19 ∨ k = 20 ∨ k = 21 := by omega

set_option maxRecDepth 20000 in
set_option maxHeartbeats 2000000 in
theorem rnamed_any (k : Nat) (w : World) (h1 : 1 ≤ k) (h2 : k < 22) :
    Calls Try.prog 37 #[.int .i64 (k : Int)] w fun e w' => e = .returned (.tuple #[.bool (hasA k), .bool (hasB k)]) ∧ w' = w := by
  rcases ops_21 h1 h2 with rfl | rfl | rfl | rfl | rfl | rfl | rfl | rfl | rfl | rfl | rfl | rfl | rfl | rfl | rfl | rfl | rfl | rfl | rfl | rfl | rfl
  all_goals
    clear h1 h2
    go_enter Try.func37, Try.ntmps37
    go_wp2
    go_ret2
    exact ⟨rfl, rfl⟩

set_option maxRecDepth 20000 in
set_option maxHeartbeats 4000000 in
theorem rwants_any (k : Nat) (a b : Int) (w : World) (h1 : 1 ≤ k) (h2 : k < 22) (ha : k = 11 ∨ k = 12 ∨ k = 18 → -9223372036854775807 ≤ a ∧ a ≤ 9223372036854775806) (hb : k = 10 ∨ k = 16 → -9223372036854775806 ≤ b ∧ b ≤ 9223372036854775807) :
    Calls Try.prog 29 #[.agg #[.int .i64 (k : Int), .int .i64 a, .int .i64 b]] w fun e w' => e = .returned (.tuple #[.int .i64 (popd k a b), .int .i64 (rTurn k a b)]) ∧ Fr (fun _ => False) w w' := by
  rcases ops_21 h1 h2 with rfl | rfl | rfl | rfl | rfl | rfl | rfl | rfl | rfl | rfl | rfl | rfl | rfl | rfl | rfl | rfl | rfl | rfl | rfl | rfl | rfl
  · clear h1 h2 ha hb
    go_enter Try.func29, Try.ntmps29
    go_wp2
    go_ret2
    exact ⟨by simp [popd, rTurn, cnt, nA, nB, nPop, nPush] <;> omega, (by repeat (first | exact Fr.refl _ _ | apply Fr.alloc | apply Fr.drew | apply Fr.drewN))⟩
  · clear h1 h2 ha hb
    go_enter Try.func29, Try.ntmps29
    go_wp2
    go_ret2
    exact ⟨by simp [popd, rTurn, cnt, nA, nB, nPop, nPush] <;> omega, (by repeat (first | exact Fr.refl _ _ | apply Fr.alloc | apply Fr.drew | apply Fr.drewN))⟩
  · clear h1 h2 ha hb
    go_enter Try.func29, Try.ntmps29
    go_wp2
    go_ret2
    exact ⟨by simp [popd, rTurn, cnt, nA, nB, nPop, nPush] <;> omega, (by repeat (first | exact Fr.refl _ _ | apply Fr.alloc | apply Fr.drew | apply Fr.drewN))⟩
  · clear h1 h2 ha hb
    go_enter Try.func29, Try.ntmps29
    go_wp2
    go_ret2
    exact ⟨by simp [popd, rTurn, cnt, nA, nB, nPop, nPush] <;> omega, (by repeat (first | exact Fr.refl _ _ | apply Fr.alloc | apply Fr.drew | apply Fr.drewN))⟩
  · clear h1 h2 ha hb
    go_enter Try.func29, Try.ntmps29
    go_wp2
    go_ret2
    exact ⟨by simp [popd, rTurn, cnt, nA, nB, nPop, nPush] <;> omega, (by repeat (first | exact Fr.refl _ _ | apply Fr.alloc | apply Fr.drew | apply Fr.drewN))⟩
  · clear h1 h2 ha hb
    go_enter Try.func29, Try.ntmps29
    go_wp2
    go_ret2
    exact ⟨by simp [popd, rTurn, cnt, nA, nB, nPop, nPush] <;> omega, (by repeat (first | exact Fr.refl _ _ | apply Fr.alloc | apply Fr.drew | apply Fr.drewN))⟩
  · clear h1 h2 ha hb
    go_enter Try.func29, Try.ntmps29
    go_wp2
    go_ret2
    exact ⟨by simp [popd, rTurn, cnt, nA, nB, nPop, nPush] <;> omega, (by repeat (first | exact Fr.refl _ _ | apply Fr.alloc | apply Fr.drew | apply Fr.drewN))⟩
  · clear h1 h2 ha hb
    go_enter Try.func29, Try.ntmps29
    go_wp2
    go_ret2
    exact ⟨by simp [popd, rTurn, cnt, nA, nB, nPop, nPush] <;> omega, (by repeat (first | exact Fr.refl _ _ | apply Fr.alloc | apply Fr.drew | apply Fr.drewN))⟩
  · clear h1 h2 ha hb
    go_enter Try.func29, Try.ntmps29
    go_wp2
    go_ret2
    exact ⟨by simp [popd, rTurn, cnt, nA, nB, nPop, nPush] <;> omega, (by repeat (first | exact Fr.refl _ _ | apply Fr.alloc | apply Fr.drew | apply Fr.drewN))⟩
  · have hb' := hb (by omega)
    clear h1 h2 ha hb
    go_enter Try.func29, Try.ntmps29
    go_wp2
    go_quiet (fail)
    go_wp2
    go_ret2
    exact ⟨by simp [popd, rTurn, cnt, nA, nB, nPop, nPush] <;> omega, (by repeat (first | exact Fr.refl _ _ | apply Fr.alloc | apply Fr.drew | apply Fr.drewN))⟩
  · have ha' := ha (by omega)
    clear h1 h2 ha hb
    go_enter Try.func29, Try.ntmps29
    go_wp2
    go_quiet (fail)
    go_wp2
    go_ret2
    exact ⟨by simp [popd, rTurn, cnt, nA, nB, nPop, nPush] <;> omega, (by repeat (first | exact Fr.refl _ _ | apply Fr.alloc | apply Fr.drew | apply Fr.drewN))⟩
  · have ha' := ha (by omega)
    clear h1 h2 ha hb
    go_enter Try.func29, Try.ntmps29
    go_wp2
    go_ret2
    exact ⟨by simp [popd, rTurn, cnt, nA, nB, nPop] <;> omega, (by repeat (first | exact Fr.refl _ _ | apply Fr.alloc | apply Fr.drew | apply Fr.drewN))⟩
  · clear h1 h2 ha hb
    go_enter Try.func29, Try.ntmps29
    go_wp2
    go_ret2
    exact ⟨by simp [popd, rTurn, cnt, nA, nB, nPop] <;> omega, (by repeat (first | exact Fr.refl _ _ | apply Fr.alloc | apply Fr.drew | apply Fr.drewN))⟩
  · clear h1 h2 ha hb
    go_enter Try.func29, Try.ntmps29
    go_wp2
    go_ret2
    exact ⟨by simp [popd, rTurn, cnt, nA, nB, nPop, nPush] <;> omega, (by repeat (first | exact Fr.refl _ _ | apply Fr.alloc | apply Fr.drew | apply Fr.drewN))⟩
  · clear h1 h2 ha hb
    go_enter Try.func29, Try.ntmps29
    go_wp2
    go_ret2
    exact ⟨by simp [popd, rTurn, cnt, nA, nB, nPop, nPush] <;> omega, (by repeat (first | exact Fr.refl _ _ | apply Fr.alloc | apply Fr.drew | apply Fr.drewN))⟩
  · have hb' := hb (by omega)
    clear h1 h2 ha hb
    go_enter Try.func29, Try.ntmps29
    go_wp2
    go_quiet (fail)
    go_wp2
    go_ret2
    exact ⟨by simp [popd, rTurn, cnt, nA, nB, nPop, nPush] <;> omega, (by repeat (first | exact Fr.refl _ _ | apply Fr.alloc | apply Fr.drew | apply Fr.drewN))⟩
  · clear h1 h2 ha hb
    go_enter Try.func29, Try.ntmps29
    go_wp2
    go_ret2
    exact ⟨by simp [popd, rTurn, cnt, nA, nB, nPop, nPush] <;> omega, (by repeat (first | exact Fr.refl _ _ | apply Fr.alloc | apply Fr.drew | apply Fr.drewN))⟩
  · have ha' := ha (by omega)
    clear h1 h2 ha hb
    go_enter Try.func29, Try.ntmps29
    go_wp2
    go_quiet (fail)
    go_wp2
    go_ret2
    exact ⟨by simp [popd, rTurn, cnt, nA, nB, nPop, nPush] <;> omega, (by repeat (first | exact Fr.refl _ _ | apply Fr.alloc | apply Fr.drew | apply Fr.drewN))⟩
  · clear h1 h2 ha hb
    go_enter Try.func29, Try.ntmps29
    go_wp2
    go_ret2
    exact ⟨by simp [popd, rTurn, cnt, nA, nB, nPop, nPush] <;> omega, (by repeat (first | exact Fr.refl _ _ | apply Fr.alloc | apply Fr.drew | apply Fr.drewN))⟩
  · clear h1 h2 ha hb
    go_enter Try.func29, Try.ntmps29
    go_wp2
    go_ret2
    exact ⟨by simp [popd, rTurn, cnt, nA, nB, nPop, nPush] <;> omega, (by repeat (first | exact Fr.refl _ _ | apply Fr.alloc | apply Fr.drew | apply Fr.drewN))⟩
  · clear h1 h2 ha hb
    go_enter Try.func29, Try.ntmps29
    go_wp2
    go_ret2
    exact ⟨by simp [popd, rTurn, cnt, nA, nB, nPop, nPush] <;> omega, (by repeat (first | exact Fr.refl _ _ | apply Fr.alloc | apply Fr.drew | apply Fr.drewN))⟩

end Go.Proofs.Ytmogglmofbbjlaa
