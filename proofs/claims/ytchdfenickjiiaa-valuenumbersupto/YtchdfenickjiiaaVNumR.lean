/-
  What is proved here: package value's numberRaws: a number's sign, then its limbs, two a word.
-/
import Derived.RangeFuncBox
import Derived.RangeFuncFrom
import Derived.Test.YtchdfenickjiiaaVChunkU
import Derived.Test.YtchdfenickjiiaaVText2
import Derived.Test.YtchdfenickjiiaaZA
namespace Go.Proofs.Ytchdfenickjiiaa
open Go Go.RowKit Go.Shelf

attribute [local go_sem] Oper.semAt_some

/-- Two limbs, or the last one, as a word. -/
def wordU (g : Nat → Nat) (len x : Nat) : Nat := if 2 * x + 1 < len then g (2 * x) + g (2 * x + 1) * 4294967296 else g (2 * x)
/-- A number's raw fields: its sign, its words. -/
def numR (s : Nat) (g : Nat → Nat) (len : Nat) : Nat → Nat := fun j => if j = 0 then s else wordU g len (j - 1)
/-- .. as far as these chunks have come. -/
def numP (s : Nat) (g : Nat → Nat) (len : Nat) (pre : List Nat) : Nat → Nat := fun j => if j = 0 then s else wordU g len (pre.getD (j - 1) 0 % ((len + 1) / 2))

theorem numP_old {s : Nat} {g : Nat → Nat} {len : Nat} {pre : List Nat} {x j : Nat} (hj : j < 1 + pre.length) : numP s g len (pre ++ [x]) j = numP s g len pre j := by
  unfold numP
  by_cases e : j = 0
  · rw [if_pos e, if_pos e]
  · rw [if_neg e, if_neg e]
    congr 2
    simp [List.getElem?_append_left (show j - 1 < pre.length by omega)]
theorem numP_new {s : Nat} {g : Nat → Nat} {len : Nat} {pre : List Nat} {x : Nat} : numP s g len (pre ++ [x]) (1 + pre.length) = wordU g len (x % ((len + 1) / 2)) := by
  unfold numP
  rw [if_neg (by omega)]
  congr 2
  simp
theorem numP_upto {s : Nat} {g : Nat → Nat} {len j : Nat} (hj : j < 1 + (len + 1) / 2) : numP s g len (upto ((len + 1) / 2)) j = numR s g len j := by
  unfold numP numR
  by_cases e : j = 0
  · rw [if_pos e, if_pos e]
  · rw [if_neg e, if_neg e]
    unfold upto
    rw [List.getD_eq_getElem?_getD, List.getElem?_range (by omega)]
    show wordU g len ((j - 1) % ((len + 1) / 2)) = _
    rw [Nat.mod_eq_of_lt (by omega)]
theorem cellsOf_push {k : IntKind} {f f' : Nat → Nat} {n : Nat} {x : Nat} (h : ∀ i, i < n → f' i = f i) (hx : f' n = x) : cellsOf k f n ++ [Value.int k (x : Int)] = cellsOf k f' (n + 1) := by
  unfold cellsOf
  rw [List.range_succ, List.map_append]
  congr 1
  · exact List.map_congr_left fun i hi => by rw [h i (List.mem_range.1 hi)]
  · simp [hx]

/-- What the loop of numberRaws keeps: what was there; the list so far in its box; the iterator's own variables. -/
structure NrI (w : World) (B : Nat) (v : Value) (s : Nat) (g : Nat → Nat) (len : Nat) (pre : List Nat) (W : World) : Prop where
  U : Below w.heap.size w W
  lb : w.heap.size ≤ B
  bs : Boxed W (B + 1) 43 v
  bn : Boxed W (B + 2) 3 (.int .i64 2)
  row : ∃ u, Boxed W B 35 u ∧ W.ownsRow w.heap.size 22 1 u (1 + pre.length) (cellsOf .u64 (numP s g len pre) (1 + pre.length))

theorem NrI.grown {w : World} {B : Nat} {v : Value} {s : Nat} {g : Nat → Nat} {len : Nat} {pre : List Nat} {W W' : World} (h : NrI w B v s g len pre W) {row : Option Nat} (hg : W.grownBy W' row) (hr : ∀ r, row = some r → w.heap.size ≤ r ∧ ∃ o : Obj, W.heap[r]? = some o ∧ o.isCells = false) : NrI w B v s g len pre W' := by
  obtain ⟨u, hu, ho⟩ := h.row
  have hne : ∀ {b : Nat} {t : TypeId} {x : Value}, Boxed W b t x → some b ≠ row := fun hb e => by
    obtain ⟨_, o, h1, h2⟩ := hr _ e.symm
    rw [show W.heap[_]? = _ from hb] at h1
    cases h1
    cases h2
  refine ⟨h.U.grown hg h.U.size (fun j ej => (hr j ej).1), h.lb, h.bs.kept hg (hne h.bs), h.bn.kept hg (hne h.bn), u, hu.kept hg (hne hu), ho.kept hg ?_⟩
  rcases ho.2 with ⟨rfl, _⟩ | ⟨g', cap, cur, rfl, _, hgb, _⟩
  · exact .inl rfl
  · refine .inr fun e' => ?_
    obtain ⟨_, o, h1, h2⟩ := hr g' (by simpa [Value.ownBlock] using e'.symm)
    rw [hgb] at h1; cases h1; cases h2

/-- One round: the box holds the longer list. -/
theorem NrI.push {w : World} {B : Nat} {v : Value} {s : Nat} {g : Nat → Nat} {len : Nat} {pre : List Nat} {W w1 : World} {u u' : Value} {x y : Nat} {tmp : Obj} {P : Nat} (h : NrI w B v s g len pre W) (hP : P = 1 + pre.length) (hu : Boxed W B 35 u) (ho : W.ownsRow w.heap.size 22 1 u P (cellsOf .u64 (numP s g len pre) P)) (hy : y = wordU g len (x % ((len + 1) / 2)))
    (ho1 : w1.ownsRow w.heap.size 22 1 u' (P + 1) (cellsOf .u64 (numP s g len pre) P ++ [Value.int .u64 (y : Int)])) (hg : (W.alloc tmp).grownBy w1 u.ownBlock) :
    Boxed w1 B 35 u ∧ KeepsOthers W (w1.setCell ⟨B, 0, none⟩ u') ∧ KeepB (B + 1) (B + 1 + 1) W (w1.setCell ⟨B, 0, none⟩ u') ∧ NrI w B v s g len (pre ++ [x]) (w1.setCell ⟨B, 0, none⟩ u') := by
  subst hP
  obtain ⟨k1, k2, k3, k4, k5⟩ := hu.appended (by decide) ho h.U.size h.lb ho1 hg
  have hb : ∀ {b : Nat} {t : TypeId} {z : Value}, Boxed W b t z → b ≠ B → t ≠ 22 → Boxed (w1.setCell ⟨B, 0, none⟩ u') b t z := fun hb hne ht => ((hb.alloc tmp).kept hg (hb.not_row ht ho)).kept (grownBy_setCell' _ _ _) (fun e => hne (by injection e))
  have b1 := hb h.bs (by omega) (by decide)
  have b2 := hb h.bn (by omega) (by decide)
  refine ⟨k1, k4, ⟨b1.cell.trans h.bs.cell.symm, b2.cell.trans h.bn.cell.symm⟩, h.U.trans k5, h.lb, b1, b2, u', k2, ?_⟩
  rw [show 1 + (pre ++ [x]).length = 1 + pre.length + 1 by simp; omega]
  rw [cellsOf_push (f' := numP s g len (pre ++ [x])) (fun i hi => numP_old hi) (by rw [numP_new, hy])] at k3
  exact k3

theorem wordU_lt {g : Nat → Nat} {len x : Nat} (hg : ∀ i, i < len → g i < 4294967296) (hx : 2 * x < len) : wordU g len x < 18446744073709551616 := by
  unfold wordU
  have h1 := hg (2 * x) hx
  split
  · rename_i h
    have h2 := hg _ h
    omega
  · omega

theorem head_ro (l h : Nat) (hh : h < 4294967296) (hl : l < 4294967296) : bits BinOp.or IntKind.u64 (l : Int) ((h : Int) * 4294967296) = ((l + h * 4294967296 : Nat) : Int) := by
  have e : (h : Int) * 4294967296 = ((h * 4294967296 : Nat) : Int) := by simp
  rw [e, u64_or_nat _ _ (by omega) (by omega), Nat.or_comm, nat_join 32 _ _ (by omega) (by omega), Nat.add_comm]

theorem NrI.start (w : World) (A : Obj) (ao : Option Addr) (len cap s : Nat) (g : Nat → Nat) : NrI w (w.heap.size + 2) (.slice ao len cap) s g len [] (((((w.alloc A).alloc (.cells #[.int .u64 (s : Int)] 22)).alloc (.cells #[.slice (some ⟨w.heap.size + 1, 0, none⟩) 1 1] 35)).alloc (.cells #[.slice ao len cap] 43)).alloc (.cells #[.int .i64 2] 3)) := by
  have b2 := Boxed.new ((w.alloc A).alloc (.cells #[.int .u64 (s : Int)] 22)) 35 (.slice (some ⟨w.heap.size + 1, 0, none⟩) 1 1)
  have b3 := Boxed.new (((w.alloc A).alloc (.cells #[.int .u64 (s : Int)] 22)).alloc (.cells #[.slice (some ⟨w.heap.size + 1, 0, none⟩) 1 1] 35)) 43 (.slice ao len cap)
  have b4 := Boxed.new ((((w.alloc A).alloc (.cells #[.int .u64 (s : Int)] 22)).alloc (.cells #[.slice (some ⟨w.heap.size + 1, 0, none⟩) 1 1] 35)).alloc (.cells #[.slice ao len cap] 43)) 3 (.int .i64 2)
  have b1 := heap_alloc_new (w.alloc A) (.cells #[.int .u64 (s : Int)] 22)
  simp only [World.size_alloc] at b1 b2 b3 b4
  have e1 := ((((World.grownBy_alloc _ (.cells #[.slice (some ⟨w.heap.size + 1, 0, none⟩) 1 1] 35) none).block (w.heap.size + 1) (by simp) (by simp)).trans b1))
  have e2 := (((World.grownBy_alloc _ (.cells #[.slice ao len cap] 43) none).block (w.heap.size + 1) (by simp) (by simp)).trans e1)
  have e3 := (((World.grownBy_alloc _ (.cells #[.int .i64 2] 3) none).block (w.heap.size + 1) (by simp) (by simp)).trans e2)
  refine ⟨(((((Below.refl _ w).alloc (Nat.le_refl _) _).alloc (by simp) _).alloc (by simp; omega) _).alloc (by simp; omega) _).alloc (by simp; omega) _, by omega, b3.alloc _, b4, _, (b2.alloc _).alloc _, ?_⟩
  refine Own.row (k := .u64) (f := numP s g len []) (n := 1) (.inr ⟨w.heap.size + 1, 1, rfl, by omega, by decide, _, e3, rfl, Nat.le_refl _, fun i hi => ?_⟩)
  match i, hi with
  | 0, _ => rfl

theorem cell_one (w : World) (a : Value) (E : TypeId) : ∀ j u, [a][j]? = some u → (w.alloc (.cells #[a] E)).cell? ((⟨w.heap.size, 0, none⟩ : Addr).add j) = some u := by
  intro j u hj
  match j, hj with
  | 0, hj =>
    cases hj
    exact cell_of_row _ _ 0 _ _ _ (heap_alloc_new w _)
  | j + 1, hj => simp at hj

theorem info22 : (Try.prog.info? 22).map (fun i => (i.zero, i.size, i.bytes)) = some (some (.int .u64 0), 1, 8) := by kernel_rfl

set_option maxRecDepth 100000 in
set_option maxHeartbeats 1000000 in
theorem numberRaws_any (w : World) (s : Nat) (sb : Bool) (ao : Option Addr) (len cap b off : Nat) (g : Nat → Nat) (hs : s = if sb then 1 else 0) (hv : BytesV (.slice ao len cap) b off len cap) (hg : ∀ i, i < len → g i < 4294967296) (hc : ∀ i, i < len → w.cell? ⟨b, off + i, none⟩ = some (.int .u32 (g i : Int))) (hl : len ≤ 1000000000) :
    Calls Try.prog 64 #[.agg #[.bool sb, .slice ao len cap]] w fun e w' => ∃ u, e = .returned u ∧ Own .u64 22 w' w.heap.size u (1 + (len + 1) / 2) (numR s g len) ∧ Below w.heap.size w w' := by
  refine (callsIn_wide (n := 4)).1 ?_
  refine callsIn_of_wp_marks Try.func64 rfl trivial ?_ rfl
  simp only [Try.ntmps64, List.size_toArray, List.length_cons, List.length_nil, Nat.reduceAdd, Nat.reduceSub, Array.replicate_succ, Array.replicate_zero, List.push_toArray, List.append_toArray, List.nil_append, List.cons_append]
  refine wpIn_wide.2 ?_
  have HS := hide hs
  have HV := hide hv
  have HG := hide hg
  have HC := hide hc
  clear hs hv hg hc
  obtain ⟨i0, hi0, hz0, hz1, hz2⟩ := info_parts info22
  rcases sb with _ | _
  all_goals
    go_wp2_with (go_at_call 101; refine (callsIn_wide.1 (chunk_inU Fence.wide 3 trivial rfl ao len cap _)).mono ?_; rintro e w4 ⟨rfl, hw4⟩)
    have hs4 := HS.out
    simp only [Bool.false_eq_true, if_true, if_false] at hs4
    have hI0 : NrI w (w.heap.size + 2) (.slice ao len cap) s g len [] w4 := by
      rw [hw4]
      subst hs4
      exact NrI.start w _ ao len cap _ g
    have hw4s : w4.heap.size = w.heap.size + 5 := by rw [hw4]; simp
    have k1 := hI0.bs.cell
    have k2 := hI0.bn.cell
    rw [← hw4]
    clear hw4
    simp only [Nat.reduceAdd, Nat.add_assoc] at k1 k2
    refine (wpIn_wide (n := 5)).1 ?_
    refine' wpIn_rangeFunc_ownF (F := Fence.wide) rfl (by decide) (gf := 126) (lb := #[.pointer (some ⟨w.heap.size + 3, 0, none⟩), .pointer (some ⟨w.heap.size + 4, 0, none⟩)]) rfl trivial (enters_of Try.func126 (by kernel_rfl) rfl) (chunk_stopsM Fence.wide 4 trivial rfl (by decide) (w.heap.size + 3) (w.heap.size + 4) b off len cap (.slice ao len cap) HV.out w4 (by omega) (by omega) k1 k2) (fun h k => ⟨k.1.trans h.1, k.2.trans h.2⟩) ?keepb (Below.refl _ _) (fun _ => rfl) (fun pre W => NrI w (w.heap.size + 2) (.slice ao len cap) s g len pre W) (fun _ _ _ => False) ?own (fun _ _ _ _ _ h _ _ => h) hI0 _ ?assign ?body ?done ?stop
    case keepb =>
      intro W l o o' hl ho hc hwk
      have hll := (Array.getElem?_eq_some_iff.1 ho).1
      exact ⟨World.cell?_of_block (World.putObj_heap_other (fun e => by have e2 : w.heap.size + 3 = l := e; omega)), World.cell?_of_block (World.putObj_heap_other (fun e => by have e2 : w.heap.size + 4 = l := e; omega))⟩
    case own => exact fun pre A B row h hg hr => h.grown hg (fun r e => ⟨by have := (hr r e).1; omega, (hr r e).2⟩)
    case assign =>
      intro l x W K hK
      gi_wp2
      exact hK
    case body =>
      intro l pre x W hI hlen
      obtain ⟨u, hu, ho⟩ := hI.row
      obtain ⟨gu, cu, rfl, _, _⟩ := World.ownsRow.form ho (by omega)
      obtain ⟨y, hy⟩ : ∃ y, y = x % ((len + 1) / 2) := ⟨_, rfl⟩
      have hyN : y < (len + 1) / 2 := by rw [hy]; exact Nat.mod_lt _ (by omega)
      have lb : b < w.heap.size := World.block_lt_of_cell? _ _ (HC.out (2 * y) (by omega))
      have hdU := hI.U
      have hU := hdU.size
      have cx : W.cell? ⟨b, off + 2 * y, none⟩ = some (.int .u32 (g (2 * y) : Int)) := (hdU.cell (p := ⟨b, off + 2 * y, none⟩) lb).trans (HC.out _ (by omega))
      have cB : W.cell? ⟨w.heap.size + 1 + 1, 0, none⟩ = some (.slice (some ⟨gu, 0, none⟩) (1 + pre.length) cu) := hu.cell
      have g0 := HG.out (2 * y) (by omega)
      obtain ⟨P, hP⟩ : ∃ P, P = 1 + pre.length := ⟨_, rfl⟩
      have HI := hide hI
      have HU := hide hu
      have HO := hide ho
      have hPl : P ≤ 1000000000 := by omega
      rw [← hP] at cB HU HO
      have HP := hide hP
      clear hI hu ho hP hdU
      by_cases h2 : 2 * y + 1 < len
      · have hV : chunkVU b off len y = .slice (some ⟨b, off + 2 * y, none⟩) 2 2 := by
          unfold chunkVU
          rw [show clenU len y = 2 by unfold clenU; omega]
        rw [hy] at hV
        have cx1 : W.cell? ⟨b, off + 2 * y + 1, none⟩ = some (.int .u32 (g (2 * y + 1) : Int)) := by
          have := (HI.out.U.cell (p := ⟨b, off + (2 * y + 1), none⟩) lb).trans (HC.out _ h2)
          rw [← Nat.add_assoc] at this
          exact this
        have g1 := HG.out _ h2
        have hor := head_ro (g (2 * y)) (g (2 * y + 1)) g1 g0
        have hw : wordU g len y = g (2 * y) + g (2 * y + 1) * 4294967296 := by unfold wordU; rw [if_pos h2]
        obtain ⟨z, hz⟩ : ∃ z, z = wordU g len y := ⟨_, rfl⟩
        rw [← hw, ← hz] at hor
        rw [hy] at hz
        have HZ := hide hz
        rw [← hy] at hV
        have HY := hide hy
        rw [hy] at hV
        clear hz hw
        generalize g (2 * y) = z0 at *
        generalize g (2 * y + 1) = z1 at *
        obtain ⟨ob, hob⟩ : ∃ ob, ob = off + 2 * y := ⟨_, rfl⟩
        rw [← HY.out, ← hob] at hV
        rw [HY.out] at hV
        rw [← hob] at cx cx1
        clear hob hy
        gi_wp2_with (gi_at_builtin; refine wpListIn_append_own _ rfl _ _ 35 rfl w.heap.size 22 i0 (.int .u64 0) 1 8 Try.underlying35 hi0 hz0 hz1 hz2 rfl (by decide) _ _ _ rfl (HO.out.alloc _) ⟨W.heap.size, 0, none⟩ 1 1 [.int .u64 (z : Int)] rfl rfl (cell_one _ _ _) (by simp [Value.oneCell']) (by unfold maxLen; omega) (by omega) (by simp; omega) ?_; intro v' w1 hown' hgrow _; obtain ⟨g', cap', rfl⟩ := ownsRow_succ hown'; have HN := HI.out.push (x := x) (y := z) HP.out HU.out HO.out HZ.out hown' hgrow; have hc1 := HN.1.cell; have hf1 := HN.1.frozen)
        exact ⟨HN.2.1, HN.2.2.1, HN.2.2.2⟩
      · have hV : chunkVU b off len y = .slice (some ⟨b, off + 2 * y, none⟩) 1 1 := by
          unfold chunkVU
          rw [show clenU len y = 1 by unfold clenU; omega]
        have hw : wordU g len y = g (2 * y) := by unfold wordU; rw [if_neg h2]
        obtain ⟨z, hz⟩ : ∃ z, z = wordU g len y := ⟨_, rfl⟩
        rw [← hw, ← hz] at cx g0
        rw [hy] at hz hV
        have HZ := hide hz
        have HY := hide hy
        clear hz hw
        obtain ⟨ob, hob⟩ : ∃ ob, ob = off + 2 * y := ⟨_, rfl⟩
        rw [← HY.out, ← hob] at hV
        rw [HY.out] at hV
        rw [← hob] at cx
        clear hob hy
        gi_wp2_with (gi_at_builtin; refine wpListIn_append_own _ rfl _ _ 35 rfl w.heap.size 22 i0 (.int .u64 0) 1 8 Try.underlying35 hi0 hz0 hz1 hz2 rfl (by decide) _ _ _ rfl (HO.out.alloc _) ⟨W.heap.size, 0, none⟩ 1 1 [.int .u64 (z : Int)] rfl rfl (cell_one _ _ _) (by simp [Value.oneCell']) (by unfold maxLen; omega) (by omega) (by simp; omega) ?_; intro v' w1 hown' hgrow _; obtain ⟨g', cap', rfl⟩ := ownsRow_succ hown'; have HN := HI.out.push (x := x) (y := z) HP.out HU.out HO.out HZ.out hown' hgrow; have hc1 := HN.1.cell; have hf1 := HN.1.frozen)
        exact ⟨HN.2.1, HN.2.2.1, HN.2.2.2⟩
    case done =>
      rintro D ys W hD rfl hI hK
      obtain ⟨u, hu, ho⟩ := hI.row
      rw [upto_length] at ho
      obtain ⟨gu, cu, rfl, _, _⟩ := World.ownsRow.form ho (by omega)
      have cB : W.cell? ⟨w.heap.size + 1 + 1, 0, none⟩ = some (.slice (some ⟨gu, 0, none⟩) (1 + (len + 1) / 2) cu) := hu.cell
      have HO := hide ho
      have HI := hide hI
      clear hu ho hI
      go_wp2
      refine ⟨by simp, .inl ⟨_, _, rfl, run_takeDeferred hK, ?_⟩⟩
      refine ⟨_, results_tmp rfl _ _ _, ?_⟩
      refine ⟨_, rfl, Own.of_row (ownsRow_putObj HO.out _ hK rfl) (fun i hi => ?_), ?_⟩
      · rw [cellsOf_get _ _ _ _ hi, numP_upto hi]
      · exact HI.out.U.grown (grownBy_putObj' W D (.deferred none)) HI.out.U.size (fun j ej => by cases ej; omega)
    case stop =>
      rintro D c pre W hD hS2 hI hK
      exact hI.elim

end Go.Proofs.Ytchdfenickjiiaa
