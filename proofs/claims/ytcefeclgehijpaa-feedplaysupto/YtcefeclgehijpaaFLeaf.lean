/-
  What is proved here: feed's Join and the document's, and what they call; a place's feed at first.
-/
import Derived.Test.YtcefeclgehijpaaFKey
import Derived.Test.YtcefeclgehijpaaFAlg
import Derived.BigQuiet
import Derived.Deep.RegionWith
namespace Go.Proofs.Ytcefeclgehijpaa
open Go Go.RowKit

/-- A feed, as a value. -/
def fdV (p c m k : Int) : Value := .agg #[.int .i64 p, .int .i64 c, .int .i64 m, .int .i64 k]

open Go.Instr in
theorem eql_feed (w : World) (p c m k p' c' m' k' : Int) : (binOp .eql 37 (.agg #[.int .i64 p, .int .i64 c, .int .i64 m, .int .i64 k]) (.agg #[.int .i64 p', .int .i64 c', .int .i64 m', .int .i64 k'])).run Try.prog w = .ok (.bool (decide (p = p' ∧ c = c' ∧ m = m' ∧ k = k'))) w := by
  go_simp
  by_cases h1 : p = p' <;> by_cases h2 : c = c' <;> by_cases h3 : m = m' <;> by_cases h4 : k = k' <;> simp [h1, h2, h3, h4]
open Go.Instr in
theorem neq_feed (w : World) (p c m k p' c' m' k' : Int) : (binOp .neq 37 (.agg #[.int .i64 p, .int .i64 c, .int .i64 m, .int .i64 k]) (.agg #[.int .i64 p', .int .i64 c', .int .i64 m', .int .i64 k'])).run Try.prog w = .ok (.bool (!decide (p = p' ∧ c = c' ∧ m = m' ∧ k = k'))) w := by
  go_simp
  by_cases h1 : p = p' <;> by_cases h2 : c = c' <;> by_cases h3 : m = m' <;> by_cases h4 : k = k' <;> simp [h1, h2, h3, h4]
theorem unseen_eq (w : World) (p c : Int) : Calls Try.prog 24 #[.int .i64 p, .int .i64 c] w fun e w' => e = .returned (fdV p c 0 (-1)) ∧ w' = w.alloc (.cells #[.int .i64 p, .int .i64 c, .int .i64 0, .int .i64 (-1)] 37) := by
  go_enter Try.func24, Try.ntmps24
  go_wp2
  refine bodyPost_ret (by simp [results, Try.results24, go_sem]; rfl) rfl ?_
  exact ⟨rfl, rfl⟩
theorem unseen_any (w : World) (p c : Int) : Calls Try.prog 24 #[.int .i64 p, .int .i64 c] w fun e w' => e = .returned (fdV p c 0 (-1)) ∧ Fr (fun _ => False) w w' :=
  (unseen_eq w p c).mono (by rintro e w' ⟨rfl, rfl⟩; exact ⟨rfl, (Fr.refl _ _).alloc _⟩)
theorem joinCallees_any (w : World) (a b : Int) : Calls Try.prog 32 #[.int .i64 a, .int .i64 b] w fun e w' => e = .returned (.int .i64 (jc a b)) ∧ w' = w := by
  obtain ⟨r, hr⟩ : ∃ r, r = jc a b := ⟨_, rfl⟩
  rw [← hr]
  unfold jc at hr
  go_enter Try.func32, Try.ntmps32
  go_wp2
  all_goals go_ret
  all_goals (simp at *; try omega)
theorem join_any (w : World) (p c m k p' c' m' k' : Int) : Calls Try.prog 22 #[fdV p c m k, fdV p' c' m' k'] w fun e w' => e = .returned (fdV p c (orI m m') (jc k k')) ∧ Fr (fun _ => False) w w' := by
  unfold fdV
  have K1 := hide (fun (W : World) => joinCallees_any W k k')
  go_enter Try.func22, Try.ntmps22
  go_wp2_with (first
    | (go_at_call 32; refine (K1.out _).mono ?_; rintro e1 w1 ⟨rfl, rfl⟩))
  refine bodyPost_ret (by simp [results, Try.results22, go_sem]; rfl) rfl ?_
  exact ⟨rfl, (((Fr.refl _ _).alloc _).alloc _).alloc _⟩
theorem rjoin_any (w : World) (p c m k p' c' m' k' : Int) : Calls Try.prog 23 #[fdV p c m k, fdV p' c' m' k'] w fun e w' => e = .returned (fdV p c (orI m m') (jc k k')) ∧ Fr (fun _ => False) w w' := by
  unfold fdV
  obtain ⟨r, hr⟩ : ∃ r, r = jc k k' := ⟨_, rfl⟩
  rw [← hr]
  unfold jc at hr
  have hfin : ∀ x : Int, x = r → Ending.returned (.agg #[.int .i64 p, .int .i64 c, .int .i64 (bits BinOp.or IntKind.i64 m m'), .int .i64 x]) = Ending.returned (.agg #[.int .i64 p, .int .i64 c, .int .i64 (orI m m'), .int .i64 r]) := fun x h => by rw [h]; rfl
  go_enter Try.func23, Try.ntmps23
  go_wp2
  all_goals refine bodyPost_ret (by simp [results, Try.results23, go_sem]; rfl) rfl ?_
  all_goals refine ⟨?_, ((((Fr.refl _ _).alloc _).alloc _).alloc _).alloc _⟩
  all_goals (refine hfin _ ?_; clear hfin; (try simp at *); try omega)

end Go.Proofs.Ytcefeclgehijpaa
