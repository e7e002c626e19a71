/-
  What is proved here: the table of needs, and the list of primitives, as they are made.
-/
import Derived.Test.YtmogglmofbbjlaaKLeaf
import Derived.Deep.WholeRow
import Derived.Great.BuildSlice
namespace Go.Proofs.Ytmogglmofbbjlaa
open Go Go.RowKit

def zN : Array Value := #[Value.int .i64 0, Value.int .i64 0, Value.int .i64 0, Value.int .i64 0, Value.bool false, Value.int .i64 0, Value.int .i64 0, Value.int .i64 0, Value.int .i64 0, Value.bool false, Value.int .i64 0, Value.int .i64 0, Value.int .i64 0, Value.int .i64 0, Value.bool false, Value.int .i64 0, Value.int .i64 0, Value.int .i64 0, Value.int .i64 0, Value.bool false, Value.int .i64 0, Value.int .i64 0, Value.int .i64 0, Value.int .i64 0, Value.bool false, Value.int .i64 0, Value.int .i64 0, Value.int .i64 0, Value.int .i64 0, Value.bool false, Value.int .i64 0, Value.int .i64 0, Value.int .i64 0, Value.int .i64 0, Value.bool false, Value.int .i64 0, Value.int .i64 0, Value.int .i64 0, Value.int .i64 0, Value.bool false, Value.int .i64 0, Value.int .i64 0, Value.int .i64 0, Value.int .i64 0, Value.bool false, Value.int .i64 0, Value.int .i64 0, Value.int .i64 0, Value.int .i64 0, Value.bool false, Value.int .i64 0, Value.int .i64 0, Value.int .i64 0, Value.int .i64 0, Value.bool false, Value.int .i64 0, Value.int .i64 0, Value.int .i64 0, Value.int .i64 0, Value.bool false, Value.int .i64 0, Value.int .i64 0, Value.int .i64 0, Value.int .i64 0, Value.bool false, Value.int .i64 0, Value.int .i64 0, Value.int .i64 0, Value.int .i64 0, Value.bool false, Value.int .i64 0, Value.int .i64 0, Value.int .i64 0, Value.int .i64 0, Value.bool false, Value.int .i64 0, Value.int .i64 0, Value.int .i64 0, Value.int .i64 0, Value.bool false, Value.int .i64 0, Value.int .i64 0, Value.int .i64 0, Value.int .i64 0, Value.bool false, Value.int .i64 0, Value.int .i64 0, Value.int .i64 0, Value.int .i64 0, Value.bool false, Value.int .i64 0, Value.int .i64 0, Value.int .i64 0, Value.int .i64 0, Value.bool false, Value.int .i64 0, Value.int .i64 0, Value.int .i64 0, Value.int .i64 0, Value.bool false, Value.int .i64 0, Value.int .i64 0, Value.int .i64 0, Value.int .i64 0, Value.bool false, Value.int .i64 0, Value.int .i64 0, Value.int .i64 0, Value.int .i64 0, Value.bool false]
/-- The cells of the table of needs. -/
def cN : Array Value := #[Value.int .i64 0, .int .i64 0, .int .i64 0, .int .i64 0, .bool false, .int .i64 1, .int .i64 0, .int .i64 0, .int .i64 1, .bool false, .int .i64 2, .int .i64 0, .int .i64 0, .int .i64 1, .bool false, .int .i64 3, .int .i64 0, .int .i64 0, .int .i64 1, .bool false, .int .i64 4, .int .i64 0, .int .i64 0, .int .i64 1, .bool false, .int .i64 4, .int .i64 0, .int .i64 1, .int .i64 1, .bool false, .int .i64 4, .int .i64 0, .int .i64 1, .int .i64 1, .bool false, .int .i64 0, .int .i64 0, .int .i64 1, .int .i64 1, .bool false, .int .i64 0, .int .i64 0, .int .i64 1, .int .i64 1, .bool false, .int .i64 0, .int .i64 0, .int .i64 2, .int .i64 1, .bool false, .int .i64 5, .int .i64 8, .int .i64 0, .int .i64 1, .bool false, .int .i64 8, .int .i64 0, .int .i64 1, .int .i64 1, .bool false, .int .i64 8, .int .i64 0, .int .i64 1, .int .i64 0, .bool true, .int .i64 0, .int .i64 0, .int .i64 1, .int .i64 0, .bool true, .int .i64 7, .int .i64 0, .int .i64 0, .int .i64 0, .bool true, .int .i64 7, .int .i64 0, .int .i64 1, .int .i64 0, .bool false, .int .i64 6, .int .i64 10, .int .i64 0, .int .i64 1, .bool false, .int .i64 0, .int .i64 0, .int .i64 1, .int .i64 0, .bool false, .int .i64 9, .int .i64 0, .int .i64 1, .int .i64 1, .bool false, .int .i64 2, .int .i64 0, .int .i64 1, .int .i64 0, .bool false, .int .i64 0, .int .i64 0, .int .i64 0, .int .i64 0, .bool false, .int .i64 2, .int .i64 0, .int .i64 0, .int .i64 1, .bool false]
theorem cN_at : ∀ k, k < 22 → cN[5 * k]? = some (.int .i64 (nA k : Int)) ∧ cN[5 * k + 1]? = some (.int .i64 (nB k : Int)) ∧ cN[5 * k + 2]? = some (.int .i64 (nPop k : Int)) ∧ cN[5 * k + 3]? = some (.int .i64 (nPush k : Int)) ∧ cN[5 * k + 4]? = some (.bool (nEnd k)) := by
  intro k hk
  have : k = 0 ∨ k = 1 ∨ k = 2 ∨ k = 3 ∨ k = 4 ∨ k = 5 ∨ k = 6 ∨ k = 7 ∨ k = 8 ∨ k = 9 ∨ k = 10 ∨ k = 11 ∨ k = 12 ∨ k = 13 ∨ k = 14 ∨ k = 15 ∨ k = 16 ∨ k = 17 ∨ k = 18 ∨ k = 19 ∨ k = 20 ∨ k = 21 := by omega
  rcases this with rfl | rfl | rfl | rfl | rfl | rfl | rfl | rfl | rfl | rfl | rfl | rfl | rfl | rfl | rfl | rfl | rfl | rfl | rfl | rfl | rfl | rfl <;> exact ⟨rfl, rfl, rfl, rfl, rfl⟩
set_option maxRecDepth 100000 in
theorem zeroNeeds (w : World) : (zeroValue 66).run Try.prog w = .ok (.agg zN) w := by kernel_rfl
set_option maxRecDepth 100000 in
set_option maxHeartbeats 4000000 in
theorem needs_any (w : World) :
    Calls Try.prog 22 #[] w fun e w' => e = .returned (.agg cN) ∧ Fr (fun _ => False) w w' := by
  have hz := zeroNeeds
  go_enter Try.func22, Try.ntmps22
  go_wp2_with (first
    | (refine wpList_buildTo rfl 66 _ rfl (some 22) rfl cN (by kernel_rfl) ?_)
    | (refine wpList_store_rowTo rfl 66 _ _ rfl rfl w.heap.size cN rfl rfl 66 zN (heap_alloc_last w _) (by kernel_rfl) (by kernel_rfl) (by kernel_rfl) ?_; rw [World.setRow_alloc_new]))
  have hld := run_loadVar_new (P := Try.prog) w 66 cN 22 65 (by kernel_rfl) (by kernel_rfl)
  exact bodyPost_ret (v := .agg cN) (by simp only [results, Try.results22, Act.put]; simp; simp only [asAddr, Sem.run_pure, Result.andThen_ok]; rw [hld]) rfl ⟨rfl, (Fr.refl _ _).alloc _⟩

end Go.Proofs.Ytmogglmofbbjlaa
