/-
  What is proved here: the document's own sum of two numbers (chapter 2), by values.
-/
import Derived.Test.YtjbocfhmfidjjaaDoorR2Int
import Derived.Test.YtjbocfhmfidjjaaDoorNReg
namespace Go.Proofs.YtjbocfhmfidjjaaDoor
open Go Go.RowKit

theorem can_pow {B : Nat} (hB : 0 < B) {f : Nat → Nat} {n K : Nat} (hf : Can B f n) (h : num B f n < B ^ K) : n ≤ K := by
  apply Nat.le_of_not_lt
  intro hlt
  obtain ⟨k, rfl⟩ : ∃ k, n = k + 1 := ⟨n - 1, by omega⟩
  have h2 : B ^ K ≤ B ^ k := Nat.pow_le_pow_right hB (by omega)
  have h3 : f k ≠ 0 := by
    rcases hf.2 with h0 | h0
    · omega
    · simpa using h0
  have h4 : num B f (k + 1) = num B f k + f k * B ^ k := rfl
  have h5 : 1 * B ^ k ≤ f k * B ^ k := Nat.mul_le_mul_right _ (by omega)
  omega
theorem OwnIn.wide {w : World} {lo hi lo' hi' : Nat} {v : Value} {n : Nat} {f : Nat → Nat} (h : OwnIn w lo hi v n f) (h1 : lo' ≤ lo) (h2 : hi ≤ hi') : OwnIn w lo' hi' v n f :=
  ⟨h.1.mono h1, fun g o l c e => Nat.lt_of_lt_of_le (h.2 g o l c e) h2⟩
/-- A size in blocks from lo on, below hi: canonical, its value is x, it has at most M limbs. -/
def MagIn (x M : Nat) (w : World) (lo hi : Nat) (v : Value) : Prop := ∃ n f, OwnIn w lo hi v n f ∧ Can 4294967296 f n ∧ n ≤ M ∧ num 4294967296 f n = x
theorem MagIn.keep {x M : Nat} {w w' : World} {lo hi : Nat} {v : Value} (h : MagIn x M w lo hi v) (hb : ∀ b, lo ≤ b → b < hi → w'.heap[b]? = w.heap[b]?) : MagIn x M w' lo hi v := by
  obtain ⟨n, f, o, r⟩ := h
  exact ⟨n, f, o.keep hb, r⟩
theorem rds_blk2 {w : World} {g : Nat} {v u : Value} {E : TypeId} (hg : w.heap[g]? = some (.cells #[v, u] E (0, 0))) : Rds w (some ⟨g, 0, none⟩) 2 (pair v u) := by
  refine .inr ⟨g, 0, rfl, fun i hi => ?_⟩
  rw [cell_of_row _ _ _ _ _ _ hg]
  match i, hi with
  | 0, _ => rfl
  | 1, _ => rfl
/-- The document's sum of two lists in one block. -/
theorem rAdd2_blk (g : Nat) (v u : Value) (E : TypeId) (n m M : Nat) (f h : Nat → Nat) (w : World) (hg : w.heap[g]? = some (.cells #[v, u] E (0, 0))) (hv : Sl .u32 w v n f) (hu : Sl .u32 w u m h) (hf : ∀ i, i < n → f i < 4294967296) (hh : ∀ i, i < m → h i < 4294967296) (hn : n ≤ M) (hm : m ≤ M) (hM : 2 * M + 2 ≤ 10000000000) :
    Calls Tryd.prog 77 #[.slice (some ⟨g, 0, none⟩) 2 2] w fun e w' => ∃ v', e = .returned v' ∧ MagIn (num 4294967296 f n + num 4294967296 h m) (M + 1) w' w.heap.size w'.heap.size v' ∧ Up w w' := by
  have L := lsts_two hv hu hf hh hn hm
  refine (rAdd_any 2 2 M _ (pair v u) (pair n m) (pair f h) w (rds_blk2 hg) (fun i hi => (L i hi).1) (fun j hj => (L j hj).2.1) (fun j hj => (L j hj).2.2) hM).mono ?_
  rintro e w' ⟨n', f', v', rfl, o, u', c, s⟩
  have s' : num 4294967296 f' n' = num 4294967296 f n + num 4294967296 h m := by
    rw [s]
    simp [total, pair]
  refine ⟨v', rfl, ⟨n', f', OwnIn.of o, c, can_pow (by decide) c ?_, s'⟩, u'⟩
  have h1 := num_lt_pow hf hn
  have h2 := num_lt_pow hh hm
  have h3 : (4294967296 : Nat) ^ (M + 1) = 4294967296 ^ M * 4294967296 := Nat.pow_succ ..
  omega
theorem sgn_add (b : Bool) (x y : Nat) : sgn b x + sgn b y = sgn b (x + y) := by
  cases b <;> simp [sgn] <;> omega
theorem sgn_sub (b : Bool) (x y : Nat) (h : y ≤ x) : sgn b x + sgn (!b) y = sgn b (x - y) := by
  cases b <;> simp [sgn] <;> omega
set_option linter.unusedSimpArgs false in
set_option maxRecDepth 4000 in
set_option maxHeartbeats 4000000 in
theorem r2plus_rd {X Y : Int} {M : Nat} {w : World} {a u : Value} (ha : RdD X M w a) (hu : RdD Y M w u) (hM : 2 * M + 3 ≤ 10000000000) :
    Calls Tryd.prog 51 #[a, u] w fun e w' => ∃ v, e = .returned v ∧ NumIn (X + Y) (M + 1) w' w.heap.size w'.heap.size v ∧ Up w w' := by
  obtain ⟨b0, ao0, n0, cap0, rfl⟩ := ha.agg
  obtain ⟨b1, ao1, n1, cap1, rfl⟩ := hu.agg
  have U0 := (((up_alloc w (.cells #[.bool b0, .slice ao0 n0 cap0] 26)).tr (up_alloc _ (.cells #[.bool b1, .slice ao1 n1 cap1] 26))).tr (up_alloc _ (.cells #[.bool false, .slice none 0 0] 26)))
  have K3 := hide (three_blocks w (.cells #[.bool b0, .slice ao0 n0 cap0] 26) (.cells #[.bool b1, .slice ao1 n1 cap1] 26) (.cells #[.bool false, .slice none 0 0] 26))
  have HA := hide ha
  have HU := hide hu
  clear ha hu
  go_enter Tryd.func51, Tryd.ntmps51
  go_wp2_with fail
  refine (r2canon_rd ((unhide HA).up U0) (by omega)).mono ?_
  rintro e w1 ⟨v1, rfl, H1, u1⟩
  obtain ⟨ba, na, fa, ⟨va, rfl, oa⟩, ca, la, sa⟩ := H1
  obtain ⟨aoa, capa, rfl, -⟩ := id oa.sl
  obtain ⟨d0, d1, f0, f1, -⟩ := cells2 (Up.blk u1 (unhide K3).1)
  obtain ⟨t1, k1⟩ := sto_two (Up.blk u1 (unhide K3).1) (.bool ba) (.slice aoa na capa)
  have k2 := (t1.block _ (by omega)).trans (Up.blk u1 (unhide K3).2.1)
  have k3 := (t1.block _ (by omega)).trans (Up.blk u1 (unhide K3).2.2)
  have u2 : Up w _ := t1.up (U0.tr u1) (Nat.le_refl _)
  have z2 := t1.size
  have oa2 := oa.keep (fun b hb _ => t1.block b (by simp at hb; omega))
  obtain ⟨c0, c1, -⟩ := cells2 k2
  go_wp2_with fail
  generalize (w1.setCell ⟨w.heap.size, 0, none⟩ (.bool ba)).setCell ⟨w.heap.size, 1, none⟩ (.slice aoa na capa) = w2 at *
  clear d0 d1 f0 f1 t1 c0 c1
  refine (r2canon_rd ((unhide HU).up u2) (by omega)).mono ?_
  rintro e w3 ⟨v3, rfl, H3, u3⟩
  obtain ⟨bb, nb, fb, ⟨vb, rfl, ob⟩, cb, lb, sb⟩ := H3
  obtain ⟨aob, capb, rfl, -⟩ := id ob.sl
  obtain ⟨d0, d1, f0, f1, -⟩ := cells2 (Up.blk u3 k2)
  obtain ⟨t3, m2⟩ := sto_two (Up.blk u3 k2) (.bool bb) (.slice aob nb capb)
  have m1 := (t3.block _ (by omega)).trans (Up.blk u3 k1)
  have m3 := (t3.block _ (by omega)).trans (Up.blk u3 k3)
  have u4 : Up w _ := t3.up (u2.tr u3) (by omega)
  have oa4 := (oa2.keep (fun b _ hb => u3.block b (by omega))).keep (fun b hb _ => t3.block b (by simp at hb; omega))
  have ob4 := ob.keep (fun b hb _ => t3.block b (by have := u2.size; have := u1.size; simp at *; omega))
  obtain ⟨c0, c1, -⟩ := cells2 m1
  obtain ⟨c2, c3, -⟩ := cells2 m2
  by_cases hb : ba = bb
  · subst hb
    go_wp2_with fail
    generalize (w3.setCell ⟨w.heap.size + 1, 0, none⟩ (.bool ba)).setCell ⟨w.heap.size + 1, 1, none⟩ (.slice aob nb capb) = w4 at *
    clear d0 d1 f0 f1 t3 c0 c1 c2 c3
    have ne1 : w.heap.size ≠ w.heap.size + 1 + 1 := by omega
    have ne2 : w.heap.size + 1 ≠ w.heap.size + 1 + 1 := by omega
    refine wp_region_knd (by kernel_rfl) w u4 [[], [0], [], [2], [], [4], [3, 5], [6], [1, 7], [8]] [.val [] (fun _ g _ => g.v = .pointer (some ⟨w.heap.size, 0, none⟩)), .val [] (fun _ g _ => g.v = .bool ba), .val [] (fun _ g _ => g.v = .pointer (some ⟨w.heap.size, 1, none⟩)), .val [] (fun _ g _ => g.v = .slice aoa na capa), .val [] (fun _ g _ => g.v = .pointer (some ⟨w.heap.size + 1, 1, none⟩)), .val [] (fun _ g _ => g.v = .slice aob nb capb), .val [] (fun w g _ => g.v = .slice (some ⟨g.lo, 0, none⟩) 2 2 ∧ g.lo < g.hi ∧ w.heap[g.lo]? = some (.cells #[.slice aoa na capa, .slice aob nb capb] 24 (0, 0))), .val [] (fun w g _ => MagIn (num 4294967296 fa na + num 4294967296 fb nb) (M + 1) w g.lo g.hi g.v), .val [] (fun w g _ => NumIn (X + Y) (M + 1) w g.lo g.hi g.v), .old (w.heap.size + 1 + 1) 8 26 2] (by kernel_rfl) (by kernel_rfl) rfl ⟨trivial, trivial, trivial, trivial, trivial, trivial, trivial, trivial, trivial, ⟨by omega, (Array.getElem?_eq_some_iff.1 m3).1, by simp [oldG]⟩, trivial⟩ ⟨fun _ _ _ _ _ h => h, fun _ _ _ _ _ h => h, fun _ _ _ _ _ h => h, fun _ _ _ _ _ h => h, fun _ _ _ _ _ h => h, fun _ _ _ _ _ h => h, fun _ _ _ _ hb h => ⟨h.1, h.2.1, (hb _ (Nat.le_refl _) h.2.1).trans h.2.2⟩, fun _ _ _ _ hb h => h.keep hb, fun _ _ _ _ hb h => h.keep hb, trivial, trivial⟩ ⟨?_, ?_, ?_, ?_, ?_, ?_, ?_, ?_, ?_, ?_, trivial⟩ ?_
    · intro x w1 K hU hS hO hd hK
      refine Veil.mk ?_; simp only [kgoal, putsFrom, depsOf, pu0, pu1, pu2, pu3, Nat.zero_add, Nat.reduceAdd, Nat.reduceBEq, Bool.or_false, Bool.false_or, Bool.or_true, Bool.true_or, Bool.false_eq_true, ↓reduceIte, Act.put, List.setIfInBounds_toArray, List.set_cons_zero, List.set_cons_succ]
      go_simp
      exact hK _ _ (Up.refl _) rfl
    · intro x w1 K hU hS hO hd hK
      have h0 : (x 0).v = _ := kval (hd 0 (by decide)).1 rfl
      obtain ⟨c0, c1, -⟩ := cells2 (hS.at m1 ⟨trivial, trivial, trivial, trivial, trivial, trivial, trivial, trivial, trivial, ne1, trivial⟩)
      refine Veil.mk ?_; simp only [kgoal, putsFrom, depsOf, pu0, pu1, pu2, pu3, Nat.zero_add, Nat.reduceAdd, Nat.reduceBEq, Bool.or_false, Bool.false_or, Bool.or_true, Bool.true_or, Bool.false_eq_true, ↓reduceIte, Act.put, List.setIfInBounds_toArray, List.set_cons_zero, List.set_cons_succ]
      go_simp
      exact hK _ _ (Up.refl _) rfl
    · intro x w1 K hU hS hO hd hK
      refine Veil.mk ?_; simp only [kgoal, putsFrom, depsOf, pu0, pu1, pu2, pu3, Nat.zero_add, Nat.reduceAdd, Nat.reduceBEq, Bool.or_false, Bool.false_or, Bool.or_true, Bool.true_or, Bool.false_eq_true, ↓reduceIte, Act.put, List.setIfInBounds_toArray, List.set_cons_zero, List.set_cons_succ]
      go_simp
      exact hK _ _ (Up.refl _) rfl
    · intro x w1 K hU hS hO hd hK
      have h0 : (x 2).v = _ := kval (hd 2 (by decide)).1 rfl
      obtain ⟨c0, c1, -⟩ := cells2 (hS.at m1 ⟨trivial, trivial, trivial, trivial, trivial, trivial, trivial, trivial, trivial, ne1, trivial⟩)
      refine Veil.mk ?_; simp only [kgoal, putsFrom, depsOf, pu0, pu1, pu2, pu3, Nat.zero_add, Nat.reduceAdd, Nat.reduceBEq, Bool.or_false, Bool.false_or, Bool.or_true, Bool.true_or, Bool.false_eq_true, ↓reduceIte, Act.put, List.setIfInBounds_toArray, List.set_cons_zero, List.set_cons_succ]
      go_simp
      exact hK _ _ (Up.refl _) rfl
    · intro x w1 K hU hS hO hd hK
      refine Veil.mk ?_; simp only [kgoal, putsFrom, depsOf, pu0, pu1, pu2, pu3, Nat.zero_add, Nat.reduceAdd, Nat.reduceBEq, Bool.or_false, Bool.false_or, Bool.or_true, Bool.true_or, Bool.false_eq_true, ↓reduceIte, Act.put, List.setIfInBounds_toArray, List.set_cons_zero, List.set_cons_succ]
      go_simp
      exact hK _ _ (Up.refl _) rfl
    · intro x w1 K hU hS hO hd hK
      have h0 : (x 4).v = _ := kval (hd 4 (by decide)).1 rfl
      obtain ⟨c0, c1, -⟩ := cells2 (hS.at m2 ⟨trivial, trivial, trivial, trivial, trivial, trivial, trivial, trivial, trivial, ne2, trivial⟩)
      refine Veil.mk ?_; simp only [kgoal, putsFrom, depsOf, pu0, pu1, pu2, pu3, Nat.zero_add, Nat.reduceAdd, Nat.reduceBEq, Bool.or_false, Bool.false_or, Bool.or_true, Bool.true_or, Bool.false_eq_true, ↓reduceIte, Act.put, List.setIfInBounds_toArray, List.set_cons_zero, List.set_cons_succ]
      go_simp
      exact hK _ _ (Up.refl _) rfl
    · intro x w1 K hU hS hO hd hK
      have h3 : (x 3).v = _ := kval (hd 3 (by decide)).1 rfl
      have h5 : (x 5).v = _ := kval (hd 5 (by decide)).1 rfl
      clear hd
      refine Veil.mk ?_; simp only [kgoal, putsFrom, depsOf, pu0, pu1, pu2, pu3, Nat.zero_add, Nat.reduceAdd, Nat.reduceBEq, Bool.or_false, Bool.false_or, Bool.or_true, Bool.true_or, Bool.false_eq_true, ↓reduceIte, Act.put, List.setIfInBounds_toArray, List.set_cons_zero, List.set_cons_succ]
      simp only [h3, h5]
      go_simp
      exact hK _ _ (up_alloc _ _) ⟨rfl, by show w1.heap.size < (w1.alloc _).heap.size; simp, heap_alloc_new w1 _⟩
    · intro x w1 K hU hS hO hd hK
      have h6 : _ ∧ _ ∧ _ := kval (hd 6 (by decide)).1 rfl
      obtain ⟨e6, -, b6⟩ := h6
      clear hd
      refine Veil.mk ?_; simp only [kgoal, putsFrom, depsOf, pu0, pu1, pu2, pu3, Nat.zero_add, Nat.reduceAdd, Nat.reduceBEq, Bool.or_false, Bool.false_or, Bool.or_true, Bool.true_or, Bool.false_eq_true, ↓reduceIte, Act.put, List.setIfInBounds_toArray, List.set_cons_zero, List.set_cons_succ]
      simp only [e6]
      go_simp
      refine (rAdd2_blk _ _ _ _ na nb M fa fb _ b6 ((oa4.1.up (up_drew _)).since hS ⟨trivial, trivial, trivial, trivial, trivial, trivial, trivial, trivial, trivial, ⟨_, _, m3, by decide⟩, trivial⟩).sl ((ob4.1.up (up_drew _)).since hS ⟨trivial, trivial, trivial, trivial, trivial, trivial, trivial, trivial, trivial, ⟨_, _, m3, by decide⟩, trivial⟩).sl ca.1.1 cb.1.1 (by omega) (by omega) (by omega)).mono ?_
      rintro e w2 ⟨v2, rfl, n2, u2⟩
      exact hK _ _ u2 n2
    · intro x w1 K hU hS hO hd hK
      have h1 : (x 1).v = _ := kval (hd 1 (by decide)).1 rfl
      have h7 : MagIn _ _ _ _ _ _ := kval (hd 7 (by decide)).1 rfl
      obtain ⟨n7, f7, o7, c7, l7, s7⟩ := h7
      clear hd
      refine Veil.mk ?_; simp only [kgoal, putsFrom, depsOf, pu0, pu1, pu2, pu3, Nat.zero_add, Nat.reduceAdd, Nat.reduceBEq, Bool.or_false, Bool.false_or, Bool.or_true, Bool.true_or, Bool.false_eq_true, ↓reduceIte, Act.put, List.setIfInBounds_toArray, List.set_cons_zero, List.set_cons_succ]
      simp only [h1]
      go_simp
      refine (r2of_any ba _ n7 f7 _ o7.sl c7.1 (by omega)).mono ?_
      rintro e w2 ⟨a2, b2, n2, f2, rfl, o2, u2, c2, l2, s2⟩
      exact hK _ _ u2 ⟨b2, n2, f2, CopIn.of o2, c2, by omega, by rw [s2, s7, ← sa, ← sb, sgn_add]⟩
    · intro x w1 K hU hS hO hd hK
      have h8 : NumIn _ _ _ _ _ _ := kval (hd 8 (by decide)).1 rfl
      obtain ⟨b8, n8, f8, ⟨v8, es, o8⟩, -⟩ := h8
      obtain ⟨ao8, cap8, rfl, -⟩ := id o8.sl
      have tt := (hO 9 _ _ rfl rfl (.inl rfl)).trans m3
      obtain ⟨d0, d1, f0, f1, -⟩ := cells2 tt
      clear hd
      refine Veil.mk ?_; simp only [kgoal, putsFrom, depsOf, pu0, pu1, pu2, pu3, Nat.zero_add, Nat.reduceAdd, Nat.reduceBEq, Bool.or_false, Bool.false_or, Bool.or_true, Bool.true_or, Bool.false_eq_true, ↓reduceIte, Act.put, List.setIfInBounds_toArray, List.set_cons_zero, List.set_cons_succ]
      go_simp
      exact hK _ _ (sto_two tt _ _).1 ⟨_, rfl, es, (sto_two tt _ _).2⟩
    intro x w1 hU hS hR hlo hdis
    have h8 : NumIn _ _ _ _ _ _ := kval (hR 8 (by decide)) rfl
    have h8lo := hlo 8 (by decide)
    obtain ⟨cs9, -, q9, t9⟩ := kold (hR 9 (by decide)) rfl
    obtain ⟨b8, n8, f8, ⟨v8, e8, o8⟩, c8, l8, s8⟩ := h8
    rw [e8] at q9
    cases q9
    obtain ⟨d0, d1, -⟩ := cells2 t9
    refine Veil.mk ?_; simp only [kgoal, putsFrom, depsOf, pu0, pu1, pu2, pu3, Nat.zero_add, Nat.reduceAdd, Nat.reduceBEq, Bool.or_false, Bool.false_or, Bool.or_true, Bool.true_or, Bool.false_eq_true, ↓reduceIte, Act.put, List.setIfInBounds_toArray, List.set_cons_zero, List.set_cons_succ]
    clear hR hdis hS
    go_wp2_with fail
    refine bodyPost_ret (by simp [results, Tryd.results51, go_sem, d0, d1]; rfl) rfl ?_
    exact ⟨_, rfl, ⟨b8, n8, f8, ⟨_, rfl, o8.wide (by have := u4.size; omega) h8lo.2.2⟩, c8, l8, s8⟩, hU⟩

  · have hbb : bb = !ba := by cases ba <;> cases bb <;> simp_all
    subst hbb
    go_wp2_with fail
    generalize (w3.setCell ⟨w.heap.size + 1, 0, none⟩ (.bool (!ba))).setCell ⟨w.heap.size + 1, 1, none⟩ (.slice aob nb capb) = w4 at *
    clear d0 d1 f0 f1 t3 c0 c1 c2 c3 hb
    have z3 := (Array.getElem?_eq_some_iff.1 m3).1
    by_cases hle : num 4294967296 fb nb ≤ num 4294967296 fa na
    · refine (rSub_ge _ _ na nb fa fb _ oa4.sl ob4.sl ca.1.1 cb.1.1 (by omega) (by omega) hle).mono ?_
      rintro e w5 ⟨n5, f5, v5, rfl, o5, u5, c5, s5⟩
      have u5 : Up w4 w5 := u5
      have l5 : n5 ≤ M := can_pow (by decide) c5 (by have := num_lt_pow ca.1.1 la; omega)
      obtain ⟨ao5, cap5, rfl, -⟩ := id o5.sl
      obtain ⟨q0, q1, -⟩ := cells2 (Up.blk u5 m1)
      have HN := hide (And.intro s5 (And.intro sa sb))
      clear s5 sa sb
      go_wp2_with fail
      refine (r2of_any ba _ n5 f5 _ o5.sl c5.1 (by omega)).mono ?_
      rintro e w6 ⟨a6, b6, n6, f6, rfl, ⟨v6, rfl, o6⟩, u6, c6, l6, s6⟩
      have HN6 := hide s6
      clear s6
      obtain ⟨ao6, cap6, rfl, -⟩ := id o6.sl
      obtain ⟨r0, r1, p0, p1, -⟩ := cells2 (Up.blk u6 (Up.blk u5 m3))
      obtain ⟨e0, e1, -⟩ := cells2 (sto_two (Up.blk u6 (Up.blk u5 m3)) (.bool b6) (.slice ao6 n6 cap6)).2
      go_wp2_with fail
      refine bodyPost_ret (by simp [results, Tryd.results51, go_sem, e0, e1]; rfl) rfl ?_
      have z5 := u5.size
      have z4 := u4.size
      refine ⟨_, rfl, ⟨b6, n6, f6, CopIn.of ⟨_, rfl, (o6.set2 (by omega)).mono (by omega)⟩, c6, by omega, ?_⟩, Up.set2 (u4.tr (u5.tr u6)) (by omega)⟩
      obtain ⟨s5, sa, sb⟩ := unhide HN
      rw [unhide HN6, ← sa, ← sb, sgn_sub _ _ _ hle]
      congr 1
      omega
    · have hlt : num 4294967296 fa na < num 4294967296 fb nb := by omega
      refine (rSub_lt _ _ na nb fa fb _ oa4.sl ob4.sl ca.1.1 cb.1.1 (by omega) (by omega) hlt).mono ?_
      rintro e w5 ⟨rfl, u5⟩
      have u5 : Up w4 w5 := u5
      obtain ⟨q0, q1, -⟩ := cells2 (Up.blk u5 m1)
      obtain ⟨q2, q3, -⟩ := cells2 (Up.blk u5 m2)
      have HN := hide (And.intro sa sb)
      clear sa sb
      go_wp2_with fail
      refine (rSub_ge _ _ nb na fb fa _ (ob4.sl.up u5) (oa4.sl.up u5) cb.1.1 ca.1.1 (by omega) (by omega) (by omega)).mono ?_
      rintro e w6 ⟨n5, f5, v5, rfl, o5, u6, c5, s5⟩
      have u6 : Up w5 w6 := u6
      have l5 : n5 ≤ M := can_pow (by decide) c5 (by have := num_lt_pow cb.1.1 lb; omega)
      have HN5 := hide s5
      clear s5 q0 q1 q2 q3
      obtain ⟨ao5, cap5, rfl, -⟩ := id o5.sl
      obtain ⟨q0, q1, -⟩ := cells2 (Up.blk u6 (Up.blk u5 m2))
      go_wp2_with fail
      refine (r2of_any (!ba) _ n5 f5 _ o5.sl c5.1 (by omega)).mono ?_
      rintro e w7 ⟨a6, b6, n6, f6, rfl, ⟨v6, rfl, o6⟩, u7, c6, l6, s6⟩
      have HN6 := hide s6
      clear s6
      obtain ⟨ao6, cap6, rfl, -⟩ := id o6.sl
      have m7 := Up.blk u7 (Up.blk u6 (Up.blk u5 m3))
      obtain ⟨r0, r1, p0, p1, -⟩ := cells2 m7
      obtain ⟨e0, e1, -⟩ := cells2 (sto_two m7 (.bool b6) (.slice ao6 n6 cap6)).2
      go_wp2_with fail
      refine bodyPost_ret (by simp [results, Tryd.results51, go_sem, e0, e1]; rfl) rfl ?_
      have z6 := u6.size
      have z5 := u5.size
      have z4 := u4.size
      refine ⟨_, rfl, ⟨b6, n6, f6, CopIn.of ⟨_, rfl, (o6.set2 (by omega)).mono (by omega)⟩, c6, by omega, ?_⟩, Up.set2 (u4.tr (u5.tr (u6.tr u7))) (by omega)⟩
      obtain ⟨sa, sb⟩ := unhide HN
      have s5 := unhide HN5
      have e3 := sgn_sub (!ba) (num 4294967296 fb nb) (num 4294967296 fa na) (by omega)
      rw [Bool.not_not] at e3
      rw [unhide HN6, ← sa, ← sb, Int.add_comm, e3]
      congr 1
      omega

end Go.Proofs.YtjbocfhmfidjjaaDoor
