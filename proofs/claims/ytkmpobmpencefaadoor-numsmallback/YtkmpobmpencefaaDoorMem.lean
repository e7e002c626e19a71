/-
  What is proved here: tandemlaw00.CopyLimbs, tandemlaw01.c and nat.clone hand back the limbs that they were handed, in new memory; tandemlaw01.same tells that two lists are the same.
-/
import Derived.Test.YtkmpobmpencefaaDoorLeaf
import Derived.Laws.CopyOwn
import Derived.Laws.AppendOwnNone
namespace Go.Proofs.YtkmpobmpencefaaDoor
open Go Go.RowKit

theorem infoU : (Tryd.prog.info? 64).map (fun i => (i.zero, i.size, i.bytes)) = some (some (.int .u32 0), 1, 4) := by kernel_rfl
theorem infoI : (Tryd.prog.info? 3).map (fun i => (i.zero, i.size, i.bytes)) = some (some (.int .i64 0), 1, 8) := by kernel_rfl

theorem Below.of_grown {w w' : World} (h : w.grownBy w' none) : Below w.heap.size w w' :=
  (Below.refl _ _).grown h (Nat.le_refl _) (fun k hk => by cases hk)

/-- make([]uint32, n): a block of its own, all noughts. -/
theorem wpList_mkU {w : World} {ops : Array Oper} {rest : List Oper} {o : Oper} {a : Act} {Q : Exit → Act → World → Prop}
    (hg : o.guard = none) (l c : Operand) (hop : o.op = Op.makeSlice 24 l c)
    (kl kc : IntKind) (L C : Int) (n : Nat) (hl : a.eval l = .int kl L) (hc : a.eval c = .int kc C) (hL : L = (n : Int)) (hC : C = (n : Int)) (b2 : 4 * n ≤ 281474976710656)
    (hK : ∀ w', RowAt .u32 64 w' w.heap.size n n (fun _ => 0) → Below w.heap.size w w' → wpList Tryd.prog ops Q rest (a.put o.dst (.slice (some ⟨w.heap.size, 0, none⟩) n n)) w') :
    wpList Tryd.prog ops Q (o :: rest) a w := by
  obtain ⟨i, hi, hz0, hz1, hz2⟩ := info_parts infoU
  refine wpList_make_full w hg l c 24 hop w.heap.size 64 i (.int .u32 0) 1 Tryd.underlying24 hi hz0 hz1 kl kc L C n hl hc hL hC (by rw [hz2]; exact b2) (by unfold maxLen; omega) (Nat.le_refl _) ?_
  intro w' hown hgrow
  refine hK w' ?_ (Below.of_grown hgrow)
  have ho : Own .u32 64 w' w.heap.size (.slice (some ⟨w.heap.size, 0, none⟩) n n) n (fun _ => 0) :=
    Own.of_row hown (fun j hj => by
      rw [show (Value.int .u32 0).cells = #[Value.int .u32 0] from rfl, toList_madeCells_one]
      simp [hj])
  rcases ho with ⟨h, _⟩ | ⟨g, cap, h, _, _, hr⟩
  · cases h
  · cases h
    exact hr
/-- make([]uint32, n, N): a block of its own, all noughts, n of them in sight. -/
theorem wpList_mkUc {w : World} {ops : Array Oper} {rest : List Oper} {o : Oper} {a : Act} {Q : Exit → Act → World → Prop}
    (hg : o.guard = none) (l c : Operand) (hop : o.op = Op.makeSlice 24 l c)
    (kl kc : IntKind) (L C : Int) (n N : Nat) (hl : a.eval l = .int kl L) (hc : a.eval c = .int kc C) (hL : L = (n : Int)) (hC : C = (N : Int)) (hnN : n ≤ N) (b2 : 4 * N ≤ 281474976710656)
    (hK : ∀ w', RowAt .u32 64 w' w.heap.size N n (fun _ => 0) → Below w.heap.size w w' → wpList Tryd.prog ops Q rest (a.put o.dst (.slice (some ⟨w.heap.size, 0, none⟩) n N)) w') :
    wpList Tryd.prog ops Q (o :: rest) a w := by
  obtain ⟨i, hi, hz0, hz1, hz2⟩ := info_parts infoU
  have hrun := run_make (P := Tryd.prog) w 24 64 i (.int .u32 0) Tryd.underlying24 hi hz0 kl kc n N (by omega) (by omega) (by rw [hz2]; omega) (by omega)
  simp only [Int.toNat_natCast, hz1, Nat.mul_one] at hrun
  subst hL hC
  refine wpList_plain hg fun K hK' => ?_
  unfold Oper.wp
  simp [execOp, hop, hl, hc, hrun, Result.andThen]
  refine hK' _ _ (hK _ ⟨madeCells (Value.int .u32 0).cells N, heap_alloc_new w _, size_madeCells _ _, hnN, fun i hi => ?_⟩ ((Below.refl _ _).alloc (Nat.le_refl _) _))
  have : i < N := by omega
  simp [madeCells, this, Nat.mod_one, Value.cells]
/-- make([]int, n). -/
theorem wpList_mkI {w : World} {ops : Array Oper} {rest : List Oper} {o : Oper} {a : Act} {Q : Exit → Act → World → Prop}
    (hg : o.guard = none) (l c : Operand) (hop : o.op = Op.makeSlice 88 l c)
    (kl kc : IntKind) (L C : Int) (n : Nat) (hl : a.eval l = .int kl L) (hc : a.eval c = .int kc C) (hL : L = (n : Int)) (hC : C = (n : Int)) (b2 : 8 * n ≤ 281474976710656)
    (hK : ∀ w', RowAt .i64 3 w' w.heap.size n n (fun _ => 0) → Below w.heap.size w w' → wpList Tryd.prog ops Q rest (a.put o.dst (.slice (some ⟨w.heap.size, 0, none⟩) n n)) w') :
    wpList Tryd.prog ops Q (o :: rest) a w := by
  obtain ⟨i, hi, hz0, hz1, hz2⟩ := info_parts infoI
  refine wpList_make_full w hg l c 88 hop w.heap.size 3 i (.int .i64 0) 1 Tryd.underlying88 hi hz0 hz1 kl kc L C n hl hc hL hC (by rw [hz2]; exact b2) (by unfold maxLen; omega) (Nat.le_refl _) ?_
  intro w' hown hgrow
  refine hK w' ?_ (Below.of_grown hgrow)
  have ho : Own .i64 3 w' w.heap.size (.slice (some ⟨w.heap.size, 0, none⟩) n n) n (fun _ => 0) :=
    Own.of_row hown (fun j hj => by
      rw [show (Value.int .i64 0).cells = #[Value.int .i64 0] from rfl, toList_madeCells_one]
      simp [hj])
  rcases ho with ⟨h, _⟩ | ⟨g, cap, h, _, _, hr⟩
  · cases h
  · cases h
    exact hr

theorem cellsOf_read {k : IntKind} {w : World} {b off n : Nat} {f : Nat → Nat} (hc : ∀ i, i < n → w.cell? ⟨b, off + i, none⟩ = some (.int k (f i))) : ∀ j u, (cellsOf k f n)[j]? = some u → w.cell? ((⟨b, off, none⟩ : Addr).add j) = some u := by
  intro j u hj
  have hl : j < n := by
    have := (List.getElem?_eq_some_iff.1 hj).1
    simpa [cellsOf] using this
  rw [cellsOf_get k f n j hl] at hj
  rw [Addr.add_lit, hc j hl]
  exact hj

/-- Where what is read lies, as the laws on copy and append ask it. -/
theorem Rd.cells {k : IntKind} {w : World} {ao : Option Addr} {n : Nat} {f : Nat → Nat} (h : Rd k w ao n f) : 0 < n → ∃ b off, ao = some ⟨b, off, none⟩ ∧ b < w.heap.size ∧ ∀ j u, (cellsOf k f n)[j]? = some u → w.cell? ((⟨b, off, none⟩ : Addr).add j) = some u := by
  intro hn
  rcases h with h | ⟨b, off, rfl, hc⟩
  · omega
  · exact ⟨b, off, rfl, Rd.lt hc hn, cellsOf_read hc⟩

theorem cells_below {k : IntKind} {w w' : World} {b off n : Nat} {f : Nat → Nat} (hb : Below w.heap.size w w') (hl : b < w.heap.size) (hc : ∀ j u, (cellsOf k f n)[j]? = some u → w.cell? ((⟨b, off, none⟩ : Addr).add j) = some u) :
    ∀ j u, (cellsOf k f n)[j]? = some u → w'.cell? ((⟨b, off, none⟩ : Addr).add j) = some u := by
  intro j u hj
  rw [hb.cell (p := (⟨b, off, none⟩ : Addr).add j) (by rw [Addr.add_lit]; exact hl)]
  exact hc j u hj

set_option maxHeartbeats 400000 in
theorem clone_any (ao : Option Addr) (n cap : Nat) (f : Nat → Nat) (w : World) (h : Rd .u32 w ao n f) (hn : 4 * n ≤ 281474976710656) :
    Calls Tryd.prog 103 #[.slice ao n cap] w fun e w' => e = .returned (.slice (some ⟨w.heap.size, 0, none⟩) n n) ∧ RowAt .u32 64 w' w.heap.size n n f ∧ Below w.heap.size w w' := by
  have hcs := cellsOf_length .u32 f n
  have hmin : (cellsOf .u32 f n).length = Nat.min n n := by rw [hcs]; exact (Nat.min_self n).symm
  go_enter Tryd.func103, Tryd.ntmps103
  go_wp2_with (first
    | (at_make; refine wpList_mkU rfl _ _ rfl .i64 .i64 _ _ n rfl rfl rfl rfl hn ?_; intro w1 hr hb; obtain ⟨cur, h1, h2, h3, h4⟩ := id hr; have h1' : w1.heap[w.heap.size]? = some (.cells cur.toList.toArray 64 (0, 0)) := (by simpa using h1))
    | (refine wpList_copy_splice rfl (.tmp 7) (.tmp 8) 24 24 rfl 64 Tryd.underlying24 (by kernel_rfl) _ _ _ _ _ _ rfl rfl w.heap.size 0 cur.toList 64 h1' (cellsOf .u32 f n) hmin (fun hp => ⟨rfl, by rw [hcs] at hp; obtain ⟨b, off, e, hl, hc⟩ := h.cells hp; exact ⟨_, e, cells_below hb hl hc⟩⟩) (by rw [hcs]; simp; omega) (cellsOf_one _ _ _) w.heap.size w hb (Nat.le_refl _) ?_; intro w2 HG hb2; clear h1 h1' hr hb))
  go_ret
  refine ⟨rfl, ⟨_, HG.out, ?_, Nat.le_refl _, fun i hi => ?_⟩, hb2⟩
  · simp [splice, hcs]; omega
  · simp only [splice, List.take_zero, List.nil_append, hcs, Nat.zero_add]
    rw [List.getElem?_toArray, List.getElem?_append_left (by rw [hcs]; exact hi), cellsOf_get _ _ _ _ hi]

set_option maxHeartbeats 400000 in
theorem copy_any (ao : Option Addr) (n cap : Nat) (f : Nat → Nat) (w : World) (h : Rd .u32 w ao n f) (ha : ao = none → cap = 0) (hn : 4 * n ≤ 140737488355328) :
    Calls Tryd.prog 58 #[.slice ao n cap] w fun e w' => ∃ v, e = .returned v ∧ Own .u32 64 w' w.heap.size v n f ∧ Below w.heap.size w w' := by
  obtain ⟨i, hi, hz0, hz1, hz2⟩ := info_parts infoU
  have hcs := cellsOf_length .u32 f n
  have hnil := World.ownsRow_nil w w.heap.size 64 1
  by_cases h0 : n = 0
  · subst h0
    cases ao with
    | none =>
      obtain rfl := ha rfl
      go_enter Tryd.func58, Tryd.ntmps58
      go_wp2_with (at_builtin; refine wpList_append_own_none rfl _ _ 24 rfl w.heap.size 64 i 1 Tryd.underlying24 hi _ _ _ rfl hnil rfl ?_)
      go_ret
      exact ⟨_, rfl, .inl ⟨rfl, rfl⟩, Below.refl _ _⟩
    | some ad =>
      go_enter Tryd.func58, Tryd.ntmps58
      go_wp2_with (at_builtin; refine wpList_append_own _ rfl _ _ 24 rfl w.heap.size 64 i (.int .u32 0) 1 4 Tryd.underlying24 hi hz0 hz1 hz2 rfl (by decide) _ _ _ rfl hnil ad 0 _ [] rfl rfl (fun j u hj => by simp at hj) (fun u hu => by simp at hu) (by unfold maxLen; omega) (by omega) (Nat.le_refl _) ?_; intro v' w1 hown hgrow hx; simp only [Nat.zero_add, List.nil_append] at hown)
      go_ret
      exact ⟨v', rfl, Own.of_row hown (fun j hj => by omega), Below.of_grown hgrow⟩
  · obtain ⟨b, off, rfl, hl, hc⟩ := h.cells (by omega)
    go_enter Tryd.func58, Tryd.ntmps58
    go_wp2_with (at_builtin; refine wpList_append_own _ rfl _ _ 24 rfl w.heap.size 64 i (.int .u32 0) 1 4 Tryd.underlying24 hi hz0 hz1 hz2 rfl (by decide) _ _ _ rfl hnil ⟨b, off, none⟩ n _ (cellsOf .u32 f n) rfl (by rw [hcs]; omega) hc (cellsOf_one _ _ _) (by unfold maxLen; omega) (by omega) (Nat.le_refl _) ?_; intro v' w1 hown hgrow hx; simp only [Nat.zero_add, List.nil_append] at hown)
    go_ret
    exact ⟨v', rfl, Own.of_row hown (fun j hj => cellsOf_get _ _ _ _ hj), Below.of_grown hgrow⟩

theorem cells_one (w : World) (a : Value) (E : TypeId) : ∀ j u, [a][j]? = some u → (w.alloc (.cells #[a] E)).cell? ((⟨w.heap.size, 0, none⟩ : Addr).add j) = some u := by
  intro j u hj
  rw [Addr.add_lit, cell_of_row _ _ _ _ _ _ (heap_alloc_new w _), Nat.zero_add]
  simpa using hj

end Go.Proofs.YtkmpobmpencefaaDoor
