/-
  What is proved here: what may be written (package pack): isNumber, isSigned, fieldsOf, isCanonical, restFits, fits.
-/
import Derived.Test.YtilcigjhogcjkaaPKPro
namespace Go.Proofs.Ytilcigjhogcjkaa
open Go Go.RowKit

set_option maxRecDepth 20000 in
theorem isNumber_any (v : Int) (w : World) : Calls Try.prog 37 #[.int .i64 v] w fun e w' => e = .returned (.bool (isNum v)) ∧ w' = w := by
  by_cases h0 : 0 ≤ v
  · by_cases h1 : v ≤ 1099511627776
    · go_enter Try.func37, Try.ntmps37
      go_wp2
      go_ret
      exact ⟨by simp [isNum, h0, h1], rfl⟩
    · go_enter Try.func37, Try.ntmps37
      go_wp2
      go_ret
      exact ⟨by simp [isNum]; omega, rfl⟩
  · go_enter Try.func37, Try.ntmps37
    go_wp2
    go_ret
    exact ⟨by simp [isNum]; omega, rfl⟩
set_option maxRecDepth 20000 in
theorem isSigned_any (v : Int) (w : World) : Calls Try.prog 52 #[.int .i64 v] w fun e w' => e = .returned (.bool (half v)) ∧ w' = w := by
  by_cases h0 : -549755813888 ≤ v
  · by_cases h1 : v ≤ 549755813888
    · go_enter Try.func52, Try.ntmps52
      go_wp2
      go_ret
      exact ⟨by simp [half, h0, h1], rfl⟩
    · go_enter Try.func52, Try.ntmps52
      go_wp2
      go_ret
      exact ⟨by simp [half]; omega, rfl⟩
  · go_enter Try.func52, Try.ntmps52
    go_wp2
    go_ret
    exact ⟨by simp [half]; omega, rfl⟩

/-- Which fields a kind has. -/
def hasN (k : Int) : Bool := decide (k = 2) || decide (k = 3) || decide (k = 9) || decide (k = 5)
def hasM (k : Int) : Bool := decide (k = 1)
def hasT (k : Int) : Bool := decide (k = 4) || decide (k = 5)
def hasI (k : Int) : Bool := decide (k = 6) || decide (k = 7)
def kOK (k : Int) : Bool := decide (1 ≤ k) && decide (k ≤ 9)
def FieldsEnd (w : World) (k : Int) (e : Ending) (w' : World) : Prop := e = .returned (.tuple #[.agg #[.bool (hasN k), .bool (hasM k), .bool (hasT k), .bool (hasI k)], .bool (kOK k)]) ∧ Fr (fun _ => False) w w'
set_option maxRecDepth 20000 in
set_option maxHeartbeats 1000000 in
theorem fieldsOf_1 (w : World) : Calls Try.prog 68 #[.int .i64 1] w fun e w' => FieldsEnd w 1 e w' := by
  go_enter Try.func68, Try.ntmps68
  go_wp2
  refine bodyPost_ret (by simp [results, Try.results68, go_sem]; rfl) rfl ?_
  exact ⟨rfl, (by repeat (first | exact Fr.refl _ _ | apply Fr.alloc))⟩
set_option maxRecDepth 20000 in
set_option maxHeartbeats 1000000 in
theorem fieldsOf_2 (w : World) : Calls Try.prog 68 #[.int .i64 2] w fun e w' => FieldsEnd w 2 e w' := by
  go_enter Try.func68, Try.ntmps68
  go_wp2
  refine bodyPost_ret (by simp [results, Try.results68, go_sem]; rfl) rfl ?_
  exact ⟨rfl, (by repeat (first | exact Fr.refl _ _ | apply Fr.alloc))⟩
set_option maxRecDepth 20000 in
set_option maxHeartbeats 1000000 in
theorem fieldsOf_3 (w : World) : Calls Try.prog 68 #[.int .i64 3] w fun e w' => FieldsEnd w 3 e w' := by
  go_enter Try.func68, Try.ntmps68
  go_wp2
  refine bodyPost_ret (by simp [results, Try.results68, go_sem]; rfl) rfl ?_
  exact ⟨rfl, (by repeat (first | exact Fr.refl _ _ | apply Fr.alloc))⟩
set_option maxRecDepth 20000 in
set_option maxHeartbeats 1000000 in
theorem fieldsOf_4 (w : World) : Calls Try.prog 68 #[.int .i64 4] w fun e w' => FieldsEnd w 4 e w' := by
  go_enter Try.func68, Try.ntmps68
  go_wp2
  refine bodyPost_ret (by simp [results, Try.results68, go_sem]; rfl) rfl ?_
  exact ⟨rfl, (by repeat (first | exact Fr.refl _ _ | apply Fr.alloc))⟩
set_option maxRecDepth 20000 in
set_option maxHeartbeats 1000000 in
theorem fieldsOf_5 (w : World) : Calls Try.prog 68 #[.int .i64 5] w fun e w' => FieldsEnd w 5 e w' := by
  go_enter Try.func68, Try.ntmps68
  go_wp2
  refine bodyPost_ret (by simp [results, Try.results68, go_sem]; rfl) rfl ?_
  exact ⟨rfl, (by repeat (first | exact Fr.refl _ _ | apply Fr.alloc))⟩
set_option maxRecDepth 20000 in
set_option maxHeartbeats 1000000 in
theorem fieldsOf_6 (w : World) : Calls Try.prog 68 #[.int .i64 6] w fun e w' => FieldsEnd w 6 e w' := by
  go_enter Try.func68, Try.ntmps68
  go_wp2
  refine bodyPost_ret (by simp [results, Try.results68, go_sem]; rfl) rfl ?_
  exact ⟨rfl, (by repeat (first | exact Fr.refl _ _ | apply Fr.alloc))⟩
set_option maxRecDepth 20000 in
set_option maxHeartbeats 1000000 in
theorem fieldsOf_7 (w : World) : Calls Try.prog 68 #[.int .i64 7] w fun e w' => FieldsEnd w 7 e w' := by
  go_enter Try.func68, Try.ntmps68
  go_wp2
  refine bodyPost_ret (by simp [results, Try.results68, go_sem]; rfl) rfl ?_
  exact ⟨rfl, (by repeat (first | exact Fr.refl _ _ | apply Fr.alloc))⟩
set_option maxRecDepth 20000 in
set_option maxHeartbeats 1000000 in
theorem fieldsOf_8 (w : World) : Calls Try.prog 68 #[.int .i64 8] w fun e w' => FieldsEnd w 8 e w' := by
  go_enter Try.func68, Try.ntmps68
  go_wp2
  refine bodyPost_ret (by simp [results, Try.results68, go_sem]; rfl) rfl ?_
  exact ⟨rfl, (by repeat (first | exact Fr.refl _ _ | apply Fr.alloc))⟩
set_option maxRecDepth 20000 in
set_option maxHeartbeats 1000000 in
theorem fieldsOf_9 (w : World) : Calls Try.prog 68 #[.int .i64 9] w fun e w' => FieldsEnd w 9 e w' := by
  go_enter Try.func68, Try.ntmps68
  go_wp2
  refine bodyPost_ret (by simp [results, Try.results68, go_sem]; rfl) rfl ?_
  exact ⟨rfl, (by repeat (first | exact Fr.refl _ _ | apply Fr.alloc))⟩
set_option maxRecDepth 20000 in
set_option maxHeartbeats 1000000 in
theorem fieldsOf_0 (w : World) (k : Int) (hk : ¬ (1 ≤ k ∧ k ≤ 9)) : Calls Try.prog 68 #[.int .i64 k] w fun e w' => FieldsEnd w k e w' := by
  have g1 : (k == 1) = false := by rw [beq_eq_false_iff_ne]; omega
  have g2 : (k == 2) = false := by rw [beq_eq_false_iff_ne]; omega
  have g3 : (k == 3) = false := by rw [beq_eq_false_iff_ne]; omega
  have g4 : (k == 4) = false := by rw [beq_eq_false_iff_ne]; omega
  have g5 : (k == 5) = false := by rw [beq_eq_false_iff_ne]; omega
  have g6 : (k == 6) = false := by rw [beq_eq_false_iff_ne]; omega
  have g7 : (k == 7) = false := by rw [beq_eq_false_iff_ne]; omega
  have g8 : (k == 8) = false := by rw [beq_eq_false_iff_ne]; omega
  have g9 : (k == 9) = false := by rw [beq_eq_false_iff_ne]; omega
  have HE : Hid (hasN k = false ∧ hasM k = false ∧ hasT k = false ∧ hasI k = false ∧ kOK k = false) := by
    unfold Hid
    simp [hasN, hasM, hasT, hasI, kOK]
    omega
  clear hk
  go_enter Try.func68, Try.ntmps68
  go_wp2
  refine bodyPost_ret (by simp [results, Try.results68, go_sem]; rfl) rfl ?_
  obtain ⟨h1, h2, h3, h4, h5⟩ := HE.out
  exact ⟨by rw [h1, h2, h3, h4, h5], (by repeat (first | exact Fr.refl _ _ | apply Fr.alloc))⟩

end Go.Proofs.Ytilcigjhogcjkaa
