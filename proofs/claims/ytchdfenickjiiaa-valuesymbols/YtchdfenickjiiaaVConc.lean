/-
  What is proved here: slices.Grow of no slice, and slices.Concat of two lists of words.
-/
import Derived.Test.YtchdfenickjiiaaHZeros
import Derived.Test.YtchdfenickjiiaaVBack
namespace Go.Proofs.Ytchdfenickjiiaa
open Go Go.RowKit

set_option maxHeartbeats 1000000 in
theorem zeros_nil (w : World) (ty : TypeId) (m : Nat) (hm0 : 0 < m) (h : m ≤ 1048576) :
    ∃ g cap w', (Builtin.append_ #[35, 3] ty #[.slice none 0 0, .int .i64 (m : Int)]).run Try.prog w = .ok (.slice (some ⟨g, 0, none⟩) m cap) w' ∧ w.heap.size ≤ g ∧ cap ≤ 9223372036854775807 ∧ RowAt .u64 22 w' g cap m (fun _ => 0) ∧ w.grownBy w' none := by
  obtain ⟨i, hi, hz0, hz1, hz2⟩ := info_parts infoW
  have hw : IntKind.i64.wrap (m : Int) = (m : Int) := by
    simp only [IntKind.wrap, IntKind.bits, IntKind.signed]
    simp
    omega
  have hm0 : ¬ ((m : Int) < 0) := by omega
  have hm48 : ¬ (281474976710656 < (m : Int) * 8) := by omega
  have hu3 : Try.prog.underlying 3 = some (.int .i64) := Try.underlying3
  have hZ : (Builtin.zeroCells (Value.int .u64 0).cells m).size = m := by simp [Builtin.zeroCells, Value.cells]
  have hm : ¬ m = 0 := by omega
  have h63' : ¬ (9223372036854775807 < ((m : Int))) := by omega
  have hfit : Builtin.nextslicecap m 0 * 8 ≤ 281474976710656 := growslice_fits (by omega) (by omega)
  have h48' : ¬ (281474976710656 < Builtin.nextslicecap m 0 * 8) := by omega
  have hr : (Builtin.append_ #[35, 3] ty #[.slice none 0 0, .int .i64 (m : Int)]).run Try.prog w = .ok (.slice (some ⟨w.heap.size, 0, none⟩) m (grownCap w m 0 22)) (w.drew.alloc (.cells (#[] ++ Builtin.zeroCells (Value.int .u64 0).cells m ++ Builtin.zeroCells (Value.int .u64 0).cells (grownCap w m 0 22 - m)) 22)) := by
    simp [Builtin.append_, run_underlying Try.underlying35, run_underlying hu3, sizeOf, typeInfo, zeroValue, hi, hz0, hz1, hz2, hw, hm0, hm48, hm, h63', h48', Question.forced, run_firstCells_none, newRow, grownCap, asInt, asIntOf]
  have hge := grownCap_ge w m 0 22
  have hcm : grownCap w m 0 22 ≤ maxLen := grownCap_le_maxLen w m 0 22 (by unfold maxLen; omega)
  refine ⟨_, _, _, hr, Nat.le_refl _, by unfold maxLen at hcm; omega, ⟨_, heap_alloc_new w.drew _, ?_, hge, fun j hj => ?_⟩, ⟨rfl, rfl, rfl, by simp, fun k hk _ => heap_alloc_old w.drew _ hk⟩⟩
  · simp [size_zeroCells, Value.cells]
    omega
  · rw [Array.getElem?_append_left (by simp [hZ]; exact hj)]
    simp only [Array.empty_append]
    rw [zeroCells_get m j hj]
    rfl

/-- At the operation, for the walk. -/
theorem wpList_zerosN {ops : Array Oper} {rest : List Oper} {o : Oper} {a : Act} {Q : Exit → Act → World → Prop} (hgd : o.guard = none) (s x : Operand) (ho : o.op = .call { callee := .builtin .append, args := #[s, x], argTypes := #[35, 3] })
    (w : World) (m : Nat) (hm0 : 0 < m) (h : m ≤ 1048576) (hs : a.eval s = .slice none 0 0) (hx : a.eval x = .int .i64 (m : Int))
    (hK : ∀ g cap w', w.heap.size ≤ g → cap ≤ 9223372036854775807 → RowAt .u64 22 w' g cap m (fun _ => 0) → w.grownBy w' none → wpList Try.prog ops Q rest (a.put o.dst (.slice (some ⟨g, 0, none⟩) m cap)) w') : wpList Try.prog ops Q (o :: rest) a w := by
  refine wpList_plain hgd fun K hK2 => ?_
  obtain ⟨g, cap, w', hr, h2, h3, h4, h5⟩ := zeros_nil w o.type m hm0 h
  unfold Oper.wp execOp
  simp only [ho, resolve, invoke, builtin, Sem.run_bind, Sem.run_pure, Result.andThen_ok, List.map_toArray, List.map_cons, List.map_nil, hs, hx, hr]
  exact hK2 _ _ (hK g cap w' h2 h3 h4 h5)

set_option maxRecDepth 20000 in
set_option maxHeartbeats 1000000 in
theorem grow_nil (w : World) (m : Nat) (hm0 : 0 < m) (h : m ≤ 1048576) :
    Calls Try.prog 94 #[.slice none 0 0, .int .i64 (m : Int)] w fun e w' => ∃ g cap, e = .returned (.slice (some ⟨g, 0, none⟩) 0 cap) ∧ w.heap.size ≤ g ∧ cap ≤ 9223372036854775807 ∧ m ≤ cap ∧ RowAt .u64 22 w' g cap 0 (fun _ => 0) ∧ Fr (fun _ => False) w w' := by
  have hmI : ¬ ((m : Int) < 0) := by omega
  have hmP : (0 : Int) < (m : Int) := by omega
  go_enter Try.func94, Try.ntmps94
  go_wp2_with (at_builtin; refine wpList_zerosN rfl _ _ rfl _ m hm0 h rfl rfl ?_; intro g cap w1 hg hcap row hgrow; have hrl := row.le; have hcapI : (0 : Int) ≤ (cap : Int) := (by omega); have HR := hide row; have HGr := hide hgrow; clear row hgrow)
  go_ret
  exact ⟨g, cap, rfl, hg, hcap, hrl, HR.out.mono (Nat.zero_le _), (Fr.refl _ w).grow HGr.out (fun k _ e => by cases e)⟩

end Go.Proofs.Ytchdfenickjiiaa
