/-
  What is proved here: append(s, make([]uint64, m)...) onto a row of the call's own.
-/
import Derived.Test.YtchdfenickjiiaaHLay2
namespace Go.Proofs.Ytchdfenickjiiaa
open Go Go.RowKit

theorem zeroCells_get (m j : Nat) (h : j < m) : (Builtin.zeroCells (Value.int .u64 0).cells m)[j]? = some (Value.int .u64 0) := by
  simp [Builtin.zeroCells, Value.cells, h, Nat.mod_one]

set_option maxHeartbeats 1000000 in
theorem zeros_own (w : World) (ty : TypeId) (g n cap : Nat) (f : Nat → Nat) (hrow : RowAt .u64 22 w g cap n f) (hcap : cap ≤ 9223372036854775807) (m : Nat) (h : n + m ≤ 1048576) :
    ∃ v' w', (Builtin.append_ #[35, 3] ty #[.slice (some ⟨g, 0, none⟩) n cap, .int .i64 (m : Int)]).run Try.prog w = .ok v' w' ∧ Own .u64 22 w' 0 v' (n + m) (fun i => if i < n then f i else 0) ∧ w.grownBy w' (some g) ∧ (v'.ownBlock = some g ∨ v'.ownBlock = some w.heap.size) := by
  obtain ⟨i, hi, hz0, hz1, hz2⟩ := info_parts infoW
  obtain ⟨cur, e1, e2, e3, e4⟩ := id hrow
  have hw : IntKind.i64.wrap (m : Int) = (m : Int) := by
    simp only [IntKind.wrap, IntKind.bits, IntKind.signed]
    simp
    omega
  have hm0 : ¬ ((m : Int) < 0) := by omega
  have hm48 : ¬ (281474976710656 < (m : Int) * 8) := by omega
  have hu3 : Try.prog.underlying 3 = some (.int .i64) := Try.underlying3
  have hZ : (Builtin.zeroCells (Value.int .u64 0).cells m).size = m := by simp [Builtin.zeroCells, Value.cells]
  by_cases hroom : n + m ≤ cap
  · have hst := run_storeCells_at Try.prog g n 22 (Builtin.zeroCells (Value.int .u64 0).cells m).toList 0 cur w e1 (by simp [hZ]; omega) (fun u hu => by
      obtain ⟨j, hj⟩ := List.getElem?_of_mem hu
      have hjm : j < m := by
        rcases Nat.lt_or_ge j m with c | c
        · exact c
        · rw [List.getElem?_eq_none (by simp [hZ]; omega)] at hj; cases hj
      have := zeroCells_get m j hjm
      rw [← Array.getElem?_toList, hj] at this
      cases this
      rfl)
    by_cases hm : m = 0
    · subst hm
      refine ⟨.slice (some ⟨g, 0, none⟩) n cap, w, ?_, .inr ⟨g, cap, rfl, Nat.zero_le _, hcap, ?_⟩, ⟨rfl, rfl, rfl, Nat.le_refl _, fun _ _ _ => rfl⟩, .inl rfl⟩
      · have hw0 : IntKind.i64.wrap 0 = 0 := hw
        simp [Builtin.append_, run_underlying Try.underlying35, run_underlying hu3, sizeOf, typeInfo, hi, hz2, hw0, e3, Addr.add_lit, storeCells, asInt, asIntOf]
      · exact hrow.congr fun j hj => by simp [hj]
    · have hr : (Builtin.append_ #[35, 3] ty #[.slice (some ⟨g, 0, none⟩) n cap, .int .i64 (m : Int)]).run Try.prog w = .ok (.slice (some ⟨g, 0, none⟩) (n + m) cap) (w.setRow g (cur.toList.take n ++ (Builtin.zeroCells (Value.int .u64 0).cells m).toList ++ cur.toList.drop (n + (Builtin.zeroCells (Value.int .u64 0).cells m).toList.length)).toArray) := by
        simp only [Nat.add_zero] at hst
        simp [Builtin.append_, run_underlying Try.underlying35, run_underlying hu3, sizeOf, typeInfo, zeroValue, hi, hz0, hz1, hz2, hw, hm0, hm48, hm, hroom, Addr.add_lit, asInt, asIntOf, hst]
      refine ⟨_, _, hr, .inr ⟨g, cap, rfl, Nat.zero_le _, hcap, _, setRow_heap w g cur _ 22 _ e1, ?_, hroom, fun j hj => ?_⟩, ⟨rfl, rfl, rfl, by simp, fun k _ hk => setRow_other w g k _ (fun e => hk (by rw [e]))⟩, .inl rfl⟩
      · simp [hZ]
        omega
      · simp only [List.getElem?_toArray]
        by_cases c : j < n
        · rw [List.append_assoc, List.getElem?_append_left (by simp; omega), List.getElem?_take, if_pos c, if_pos c, Array.getElem?_toList]
          exact e4 j c
        · rw [List.append_assoc, List.getElem?_append_right (by simp; omega), List.getElem?_append_left (by simp [hZ]; omega), Array.getElem?_toList, if_neg c]
          have : (List.take n cur.toList).length = n := by simp; omega
          rw [this, zeroCells_get m (j - n) (by omega)]
          rfl
  · have hn : ¬ (n + m ≤ cap) := hroom
    have hm : ¬ m = 0 := fun e => by omega
    have h63' : ¬ (9223372036854775807 < ((n : Int) + (m : Int))) := by omega
    have hfit : Builtin.nextslicecap (n + m) cap * 8 ≤ 281474976710656 := growslice_fits (by omega) (by omega)
    have h48' : ¬ (281474976710656 < Builtin.nextslicecap (n + m) cap * 8) := by omega
    have hfo := run_firstCells_some (P := Try.prog) w.drew 1 n ⟨g, 0, none⟩ n cap (cellsOf .u64 f n) (by rw [cellsOf_length]; omega) (fun j u hj => by
      have hc := hcells_at (w := w) (b := g) (off := 0) (l := n) (d := f) (fun i hi => by rw [Nat.zero_add]; exact hrow.cell hi) j u hj
      simpa using hc)
    have hr : (Builtin.append_ #[35, 3] ty #[.slice (some ⟨g, 0, none⟩) n cap, .int .i64 (m : Int)]).run Try.prog w = .ok (.slice (some ⟨w.heap.size, 0, none⟩) (n + m) (grownCap w (n + m) cap 22)) (w.drew.alloc (.cells ((cellsOf .u64 f n).toArray ++ Builtin.zeroCells (Value.int .u64 0).cells m ++ Builtin.zeroCells (Value.int .u64 0).cells (grownCap w (n + m) cap 22 - (n + m))) 22)) := by
      simp [Builtin.append_, run_underlying Try.underlying35, run_underlying hu3, sizeOf, typeInfo, zeroValue, hi, hz0, hz1, hz2, hw, hm0, hm48, hm, hn, h63', h48', Question.forced, hfo, newRow, grownCap, asInt, asIntOf]
    have hge := grownCap_ge w (n + m) cap 22
    have hcm : grownCap w (n + m) cap 22 ≤ maxLen := grownCap_le_maxLen w (n + m) cap 22 (by unfold maxLen; omega)
    refine ⟨_, _, hr, .inr ⟨w.heap.size, _, rfl, Nat.zero_le _, by unfold maxLen at hcm; omega, _, heap_alloc_new w.drew _, ?_, hge, fun j hj => ?_⟩, ⟨rfl, rfl, rfl, by simp, fun k hk _ => heap_alloc_old w.drew _ hk⟩, .inr rfl⟩
    · simp [size_zeroCells, cellsOf_length, Value.cells]
      omega
    · have hs1 : ((cellsOf .u64 f n).toArray).size = n := by simp [cellsOf_length]
      rw [Array.getElem?_append_left (by rw [Array.size_append, hs1, hZ]; exact hj)]
      by_cases c : j < n
      · rw [Array.getElem?_append_left (by rw [hs1]; exact c), List.getElem?_toArray, cellsOf_get _ _ _ _ c]
        simp [c]
      · rw [Array.getElem?_append_right (by rw [hs1]; omega), hs1, zeroCells_get m (j - n) (by omega)]
        simp [c]

/-- At the operation, for the walk. -/
theorem wpList_zeros {ops : Array Oper} {rest : List Oper} {o : Oper} {a : Act} {Q : Exit → Act → World → Prop} (hgd : o.guard = none) (s x : Operand) (ho : o.op = .call { callee := .builtin .append, args := #[s, x], argTypes := #[35, 3] })
    (w : World) (g n cap : Nat) (f : Nat → Nat) (hrow : RowAt .u64 22 w g cap n f) (hcap : cap ≤ 9223372036854775807) (m : Nat) (h : n + m ≤ 1048576) (hs : a.eval s = .slice (some ⟨g, 0, none⟩) n cap) (hx : a.eval x = .int .i64 (m : Int))
    (hK : ∀ v' w', Own .u64 22 w' 0 v' (n + m) (fun i => if i < n then f i else 0) → w.grownBy w' (some g) → (v'.ownBlock = some g ∨ v'.ownBlock = some w.heap.size) → wpList Try.prog ops Q rest (a.put o.dst v') w') : wpList Try.prog ops Q (o :: rest) a w := by
  refine wpList_plain hgd fun K hK2 => ?_
  obtain ⟨v', w', hr, h2, h3, h4⟩ := zeros_own w o.type g n cap f hrow hcap m h
  unfold Oper.wp execOp
  simp only [ho, resolve, invoke, builtin, Sem.run_bind, Sem.run_pure, Result.andThen_ok, List.map_toArray, List.map_cons, List.map_nil, hs, hx, hr]
  exact hK2 _ _ (hK v' w' h2 h3 h4)

end Go.Proofs.Ytchdfenickjiiaa
