/-
  What is proved here: the document's own product of any numbers (chapter 2), by values.
-/
import Derived.Test.YtjbocfhmfidjjaaDoorR2Con
import Derived.Test.YtjbocfhmfidjjaaDoorRMul2
import Derived.Test.YtjbocfhmfidjjaaDoorNLists
namespace Go.Proofs.YtjbocfhmfidjjaaDoor
open Go Go.RowKit

theorem sumN_mono (ns : Nat → Nat) {j k : Nat} (h : j ≤ k) : sumN ns j ≤ sumN ns k := by
  induction k with
  | zero =>
    obtain rfl : j = 0 := by omega
    exact Nat.le_refl _
  | succ k ih =>
    by_cases e : j = k + 1
    · subst e
      exact Nat.le_refl _
    · have := ih (by omega)
      show sumN ns j ≤ sumN ns k + ns k
      omega
/-- The document's product of two lists in one block. -/
theorem rMul2_blk (g : Nat) (v u : Value) (E : TypeId) (n m : Nat) (f h : Nat → Nat) (w : World) (hg : w.heap[g]? = some (.cells #[v, u] E (0, 0))) (hv : Sl .u32 w v n f) (hu : Sl .u32 w u m h) (hf : ∀ i, i < n → f i < 4294967296) (hh : ∀ i, i < m → h i < 4294967296) (hM : 2 * (n + m) + 2 ≤ 10000000000) :
    Calls Tryd.prog 55 #[.slice (some ⟨g, 0, none⟩) 2 2] w fun e w' => ∃ v', e = .returned v' ∧ MagIn (num 4294967296 f n * num 4294967296 h m) (n + m) w' w.heap.size w'.heap.size v' ∧ Up w w' := by
  have L := lsts_two (M := n + m) hv hu hf hh (by omega) (by omega)
  refine (rMul_any 2 2 _ (pair v u) (pair n m) (pair f h) w (rds_blk2 hg) (fun i hi => (L i hi).1) (fun j hj => (L j hj).2.1) (by rw [sumN_pair]; omega)).mono ?_
  rintro e w' ⟨n', f', v', rfl, o, u', c, s⟩
  have s' : num 4294967296 f' n' = num 4294967296 f n * num 4294967296 h m := by
    rw [s]
    simp [prodN, pair]
  refine ⟨v', rfl, ⟨n', f', OwnIn.of o, c, can_pow (by decide) c ?_, s'⟩, u'⟩
  rw [s', Nat.pow_add]
  exact Nat.mul_lt_mul'' (num_lt_pow hf (Nat.le_refl _)) (num_lt_pow hh (Nat.le_refl _))

set_option linter.unusedSimpArgs false in
set_option maxRecDepth 4000 in
set_option maxHeartbeats 4000000 in
theorem r2mul_any (mo : Option Addr) (k cap : Nat) (vs : Nat → Value) (bs : Nat → Bool) (ns : Nat → Nat) (Xs : Nat → Int) (w : World) (hr : RdN w mo k vs bs) (hs : ∀ j, j < k → RdD (Xs j) (ns j) w (.agg #[.bool (bs j), vs j])) (hM : 2 * (sumN ns k + 2) + 5 ≤ 1000000000) (hk : k ≤ 1048576) :
    Calls Tryd.prog 22 #[.slice mo k cap] w fun e w' => ∃ v, e = .returned v ∧ NumIn (prodZ Xs k) (sumN ns k + 2) w' w.heap.size w'.heap.size v ∧ Up w w' := by
  have hle : ∀ j, j ≤ k → sumN ns j ≤ sumN ns k := by
    intro j hj
    exact sumN_mono ns hj
  have U0 := up_alloc w (.cells #[.bool false, .slice none 0 0] 26)
  have K0 := heap_alloc_new w (.cells #[.bool false, .slice none 0 0] 26)
  have HS := hide hs
  clear hs
  go_enter Tryd.func22, Tryd.ntmps22
  go_wp2_with fail
  refine (r2int_rd 1 _ (by decide) (by decide)).mono ?_
  rintro e w1' ⟨v1, rfl, n1, u1⟩
  obtain ⟨bp, aop, np, capp, rfl⟩ := (n1.rd (Nat.le_refl _)).agg
  have S1 := (up_alloc w1' (.cells #[.bool bp, .slice aop np capp] 26))
  have T3' := heap_alloc_new w1' (.cells #[.bool bp, .slice aop np capp] 26)
  have T2' := Up.blk (u1.tr S1) K0
  have U1 := U0.tr (u1.tr S1)
  have hz1 : w.heap.size < w1'.heap.size := by have := u1.size; simp at this; omega
  have ne2 : w.heap.size ≠ w1'.heap.size := by omega
  have N1 := hide (n1.keep (fun b _ hb => S1.block b hb))
  clear n1 K0
  go_wp2_with fail
  go_loopw [4] (fun t4 wr => ∃ (j : Nat) (b : Bool) (v : Value), j ≤ k ∧ t4 = .int .i64 j ∧ wr.heap[w1'.heap.size]? = some (.cells #[.bool b, v] 26 (0, 0)) ∧ wr.heap[w.heap.size]? = some (.cells #[.bool false, .slice none 0 0] 26 (0, 0)) ∧ Up w wr ∧ Hid (NumIn (prodZ Xs j) (sumN ns j + 2) wr w.heap.size wr.heap.size (.agg #[.bool b, v]))) (fun t4 _ => k - (intOf t4).toNat)
  case atStart =>
    obtain ⟨b', n', f', ⟨v', e', o'⟩, c', l', s'⟩ := unhide N1
    exact ⟨0, bp, .slice aop np capp, Nat.zero_le _, rfl, T3', T2', U1, hide ⟨b', n', f', ⟨v', e', o'.wide (by simp) (by simp)⟩, c', by show n' ≤ 0 + 2; omega, s'⟩⟩
  case round =>
    obtain ⟨j, b, v, hj, rfl, T3, T2, u, HN⟩ := hrel
    obtain ⟨b', ao, n, cp, ev⟩ := ((unhide HN).rd (Nat.le_refl _)).agg
    cases ev
    clear T3' T2' U0 U1 N1 S1 u1
    by_cases hjk : j < k
    · rcases hr with hr | ⟨bl, off, rfl, hc⟩
      · omega
      have HSJ := hide (unhide HS j hjk)
      have hx0 := (hc j hjk).1
      have hx1 := (hc j hjk).2
      obtain ⟨bj, aoj, nj, capj, ej⟩ := (unhide HSJ).agg
      have ej' : bs j = bj ∧ vs j = .slice aoj nj capj := by
        cases hvs : vs j
        all_goals simp_all
      rw [ej'.1, ej'.2] at HSJ
      rw [ej'.1] at hx0
      rw [ej'.2] at hx1
      have hbl : bl < w.heap.size := World.block_lt_of_cell? w _ hx0
      have hc0 : wr.cell? ⟨bl, off + j * 2, none⟩ = some (.bool bj) := (Below.cell u (p := ⟨bl, off + j * 2, none⟩) hbl).trans hx0
      have hc1 : wr.cell? ⟨bl, off + j * 2 + 1, none⟩ = some (.slice aoj nj capj) := (Below.cell u (p := ⟨bl, off + j * 2 + 1, none⟩) hbl).trans hx1
      have hj1 : sumN ns j + ns j ≤ sumN ns k := hle (j + 1) hjk
      clear hc ej ej' hx0 hx1 hle
      go_wp2_with fail
      refine (r2canon_rd ((unhide HSJ).up u) (by omega)).mono ?_
      rintro e w2' ⟨v2, rfl, n2, u2⟩
      obtain ⟨bx, nx, fx, ⟨vx, rfl, ox⟩, cX, lX, sX⟩ := n2
      obtain ⟨aox, capx, rfl, -⟩ := id ox.sl
      have S2 := up_alloc w2' (.cells #[.bool bx, .slice aox nx capx] 26)
      have T5 := heap_alloc_new w2' (.cells #[.bool bx, .slice aox nx capx] 26)
      have lt3 := (Array.getElem?_eq_some_iff.1 T3).1
      have ne5 : w2'.heap.size ≠ w1'.heap.size := by have := u2.size; omega
      obtain ⟨b', n', f, ⟨v', e', op⟩, cP, lP, sP⟩ := unhide HN
      cases e'
      obtain ⟨ao', cap', ee, -⟩ := id op.sl
      cases ee
      replace op := (op.keep (fun b _ hb => u2.block b hb)).keep (fun b _ hb => S2.block b (by have := u2.size; omega))
      replace ox := ox.keep (fun b _ hb => S2.block b hb)
      replace T3 := Up.blk (u2.tr S2) T3
      replace T2 := Up.blk (u2.tr S2) T2
      have U3 := u.tr (u2.tr S2)
      have HV := hide (And.intro sP sX)
      clear sP sX u u2 S2 hc0 hc1 HN
      go_wp2_with fail
      refine wp_region_knd (by kernel_rfl) w U3 [[], [0], [], [2], [1, 3], [], [5], [], [7], [6, 8], [9], [4, 10], [11, 1, 6]] [.val [] (fun _ g _ => g.v = .pointer (some ⟨w1'.heap.size, 0, none⟩)), .val [] (fun _ g _ => g.v = .bool b), .val [] (fun _ g _ => g.v = .pointer (some ⟨w2'.heap.size, 0, none⟩)), .val [] (fun _ g _ => g.v = .bool bx), .val [] (fun _ g _ => g.v = .bool (b != bx)), .val [] (fun _ g _ => g.v = .pointer (some ⟨w1'.heap.size, 1, none⟩)), .val [] (fun _ g _ => g.v = .slice ao n cp), .val [] (fun _ g _ => g.v = .pointer (some ⟨w2'.heap.size, 1, none⟩)), .val [] (fun _ g _ => g.v = .slice aox nx capx), .val [] (fun w g _ => g.v = .slice (some ⟨g.lo, 0, none⟩) 2 2 ∧ g.lo < g.hi ∧ w.heap[g.lo]? = some (.cells #[.slice ao n cp, .slice aox nx capx] 24 (0, 0))), .val [] (fun w g _ => MagIn (num 4294967296 f n * num 4294967296 fx nx) (n + nx) w g.lo g.hi g.v), .val [] (fun w g _ => NumIn (prodZ Xs j * Xs j) (sumN ns j + 2 + ns j) w g.lo g.hi g.v), .old (w1'.heap.size) 11 26 2] (by kernel_rfl) (by kernel_rfl) rfl ⟨trivial, trivial, trivial, trivial, trivial, trivial, trivial, trivial, trivial, trivial, trivial, trivial, ⟨by omega, (Array.getElem?_eq_some_iff.1 T3).1, by simp [oldG]⟩, trivial⟩ ⟨fun _ _ _ _ _ h => h, fun _ _ _ _ _ h => h, fun _ _ _ _ _ h => h, fun _ _ _ _ _ h => h, fun _ _ _ _ _ h => h, fun _ _ _ _ _ h => h, fun _ _ _ _ _ h => h, fun _ _ _ _ _ h => h, fun _ _ _ _ _ h => h, fun _ _ _ _ hb h => ⟨h.1, h.2.1, (hb _ (Nat.le_refl _) h.2.1).trans h.2.2⟩, fun _ _ _ _ hb h => h.keep hb, fun _ _ _ _ hb h => h.keep hb, trivial, trivial⟩ ⟨?_, ?_, ?_, ?_, ?_, ?_, ?_, ?_, ?_, ?_, ?_, ?_, ?_, trivial⟩ ?_
      · intro x w1 K hU hS hO hd hK
        refine Veil.mk ?_; simp only [kgoal, putsFrom, depsOf, pu0, pu1, pu2, pu3, Nat.zero_add, Nat.reduceAdd, Nat.reduceBEq, Bool.or_false, Bool.false_or, Bool.or_true, Bool.true_or, Bool.false_eq_true, ↓reduceIte, Act.put, List.setIfInBounds_toArray, List.set_cons_zero, List.set_cons_succ]
        go_simp
        exact hK _ _ (Up.refl _) rfl
      · intro x w1 K hU hS hO hd hK
        have h0 : (x 0).v = _ := kval (hd 0 (by decide)).1 rfl
        obtain ⟨c0, c1, -⟩ := cells2 ((hO 12 _ _ rfl rfl (.inr (by decide))).trans T3)
        refine Veil.mk ?_; simp only [kgoal, putsFrom, depsOf, pu0, pu1, pu2, pu3, Nat.zero_add, Nat.reduceAdd, Nat.reduceBEq, Bool.or_false, Bool.false_or, Bool.or_true, Bool.true_or, Bool.false_eq_true, ↓reduceIte, Act.put, List.setIfInBounds_toArray, List.set_cons_zero, List.set_cons_succ]
        go_simp
        exact hK _ _ (Up.refl _) rfl
      · intro x w1 K hU hS hO hd hK
        refine Veil.mk ?_; simp only [kgoal, putsFrom, depsOf, pu0, pu1, pu2, pu3, Nat.zero_add, Nat.reduceAdd, Nat.reduceBEq, Bool.or_false, Bool.false_or, Bool.or_true, Bool.true_or, Bool.false_eq_true, ↓reduceIte, Act.put, List.setIfInBounds_toArray, List.set_cons_zero, List.set_cons_succ]
        go_simp
        exact hK _ _ (Up.refl _) rfl
      · intro x w1 K hU hS hO hd hK
        have h0 : (x 2).v = _ := kval (hd 2 (by decide)).1 rfl
        obtain ⟨c0, c1, -⟩ := cells2 (hS.at T5 ⟨trivial, trivial, trivial, trivial, trivial, trivial, trivial, trivial, trivial, trivial, trivial, trivial, ne5, trivial⟩)
        refine Veil.mk ?_; simp only [kgoal, putsFrom, depsOf, pu0, pu1, pu2, pu3, Nat.zero_add, Nat.reduceAdd, Nat.reduceBEq, Bool.or_false, Bool.false_or, Bool.or_true, Bool.true_or, Bool.false_eq_true, ↓reduceIte, Act.put, List.setIfInBounds_toArray, List.set_cons_zero, List.set_cons_succ]
        go_simp
        exact hK _ _ (Up.refl _) rfl
      · intro x w1 K hU hS hO hd hK
        have h1 : (x 1).v = _ := kval (hd 1 (by decide)).1 rfl
        have h3 : (x 3).v = _ := kval (hd 3 (by decide)).1 rfl
        clear hd
        refine Veil.mk ?_; simp only [kgoal, putsFrom, depsOf, pu0, pu1, pu2, pu3, Nat.zero_add, Nat.reduceAdd, Nat.reduceBEq, Bool.or_false, Bool.false_or, Bool.or_true, Bool.true_or, Bool.false_eq_true, ↓reduceIte, Act.put, List.setIfInBounds_toArray, List.set_cons_zero, List.set_cons_succ]
        simp only [h1, h3]
        go_simp
        exact hK _ _ (Up.refl _) (by cases b <;> cases bx <;> rfl)
      · intro x w1 K hU hS hO hd hK
        refine Veil.mk ?_; simp only [kgoal, putsFrom, depsOf, pu0, pu1, pu2, pu3, Nat.zero_add, Nat.reduceAdd, Nat.reduceBEq, Bool.or_false, Bool.false_or, Bool.or_true, Bool.true_or, Bool.false_eq_true, ↓reduceIte, Act.put, List.setIfInBounds_toArray, List.set_cons_zero, List.set_cons_succ]
        go_simp
        exact hK _ _ (Up.refl _) rfl
      · intro x w1 K hU hS hO hd hK
        have h0 : (x 5).v = _ := kval (hd 5 (by decide)).1 rfl
        obtain ⟨c0, c1, -⟩ := cells2 ((hO 12 _ _ rfl rfl (.inr (by decide))).trans T3)
        refine Veil.mk ?_; simp only [kgoal, putsFrom, depsOf, pu0, pu1, pu2, pu3, Nat.zero_add, Nat.reduceAdd, Nat.reduceBEq, Bool.or_false, Bool.false_or, Bool.or_true, Bool.true_or, Bool.false_eq_true, ↓reduceIte, Act.put, List.setIfInBounds_toArray, List.set_cons_zero, List.set_cons_succ]
        go_simp
        exact hK _ _ (Up.refl _) rfl
      · intro x w1 K hU hS hO hd hK
        refine Veil.mk ?_; simp only [kgoal, putsFrom, depsOf, pu0, pu1, pu2, pu3, Nat.zero_add, Nat.reduceAdd, Nat.reduceBEq, Bool.or_false, Bool.false_or, Bool.or_true, Bool.true_or, Bool.false_eq_true, ↓reduceIte, Act.put, List.setIfInBounds_toArray, List.set_cons_zero, List.set_cons_succ]
        go_simp
        exact hK _ _ (Up.refl _) rfl
      · intro x w1 K hU hS hO hd hK
        have h0 : (x 7).v = _ := kval (hd 7 (by decide)).1 rfl
        obtain ⟨c0, c1, -⟩ := cells2 (hS.at T5 ⟨trivial, trivial, trivial, trivial, trivial, trivial, trivial, trivial, trivial, trivial, trivial, trivial, ne5, trivial⟩)
        refine Veil.mk ?_; simp only [kgoal, putsFrom, depsOf, pu0, pu1, pu2, pu3, Nat.zero_add, Nat.reduceAdd, Nat.reduceBEq, Bool.or_false, Bool.false_or, Bool.or_true, Bool.true_or, Bool.false_eq_true, ↓reduceIte, Act.put, List.setIfInBounds_toArray, List.set_cons_zero, List.set_cons_succ]
        go_simp
        exact hK _ _ (Up.refl _) rfl
      · intro x w1 K hU hS hO hd hK
        have h6 : (x 6).v = _ := kval (hd 6 (by decide)).1 rfl
        have h8 : (x 8).v = _ := kval (hd 8 (by decide)).1 rfl
        clear hd
        refine Veil.mk ?_; simp only [kgoal, putsFrom, depsOf, pu0, pu1, pu2, pu3, Nat.zero_add, Nat.reduceAdd, Nat.reduceBEq, Bool.or_false, Bool.false_or, Bool.or_true, Bool.true_or, Bool.false_eq_true, ↓reduceIte, Act.put, List.setIfInBounds_toArray, List.set_cons_zero, List.set_cons_succ]
        simp only [h6, h8]
        go_simp
        exact hK _ _ (up_alloc _ _) ⟨rfl, by show w1.heap.size < (w1.alloc _).heap.size; simp, heap_alloc_new w1 _⟩
      · intro x w1 K hU hS hO hd hK
        have h9 : _ ∧ _ ∧ _ := kval (hd 9 (by decide)).1 rfl
        obtain ⟨e9, -, b9⟩ := h9
        clear hd
        refine Veil.mk ?_; simp only [kgoal, putsFrom, depsOf, pu0, pu1, pu2, pu3, Nat.zero_add, Nat.reduceAdd, Nat.reduceBEq, Bool.or_false, Bool.false_or, Bool.or_true, Bool.true_or, Bool.false_eq_true, ↓reduceIte, Act.put, List.setIfInBounds_toArray, List.set_cons_zero, List.set_cons_succ]
        simp only [e9]
        go_simp
        refine (rMul2_blk _ _ _ _ n nx f fx _ b9 ((op.1.up (up_drew _)).since hS ⟨trivial, trivial, trivial, trivial, trivial, trivial, trivial, trivial, trivial, trivial, trivial, trivial, ⟨_, _, T3, by decide⟩, trivial⟩).sl ((ox.1.up (up_drew _)).since hS ⟨trivial, trivial, trivial, trivial, trivial, trivial, trivial, trivial, trivial, trivial, trivial, trivial, ⟨_, _, T3, by decide⟩, trivial⟩).sl cP.1.1 cX.1.1 (by omega)).mono ?_
        rintro e w2 ⟨v2, rfl, n2, u2⟩
        exact hK _ _ u2 n2
      · intro x w1 K hU hS hO hd hK
        have h4 : (x 4).v = _ := kval (hd 4 (by decide)).1 rfl
        have h10 : MagIn _ _ _ _ _ _ := kval (hd 10 (by decide)).1 rfl
        obtain ⟨n7, f7, o7, c7, l7, s7⟩ := h10
        clear hd
        refine Veil.mk ?_; simp only [kgoal, putsFrom, depsOf, pu0, pu1, pu2, pu3, Nat.zero_add, Nat.reduceAdd, Nat.reduceBEq, Bool.or_false, Bool.false_or, Bool.or_true, Bool.true_or, Bool.false_eq_true, ↓reduceIte, Act.put, List.setIfInBounds_toArray, List.set_cons_zero, List.set_cons_succ]
        simp only [h4]
        go_simp
        refine (r2of_any (b != bx) _ n7 f7 _ o7.sl c7.1 (by omega)).mono ?_
        rintro e w2 ⟨a2, b2, n2, f2, rfl, o2, u2, c2, l2, s2⟩
        exact hK _ _ u2 ⟨b2, n2, f2, CopIn.of o2, c2, by omega, by rw [s2, s7, sgn_mul, (unhide HV).1, (unhide HV).2]⟩
      · intro x w1 K hU hS hO hd hK
        have h8 : NumIn _ _ _ _ _ _ := kval (hd 11 (by decide)).1 rfl
        obtain ⟨b8, n8, f8, ⟨v8, es, o8⟩, -⟩ := h8
        obtain ⟨ao8, cap8, rfl, -⟩ := id o8.sl
        have tt := (hO 12 _ _ rfl rfl (.inl rfl)).trans T3
        obtain ⟨d0, d1, f0, f1, -⟩ := cells2 tt
        clear hd
        refine Veil.mk ?_; simp only [kgoal, putsFrom, depsOf, pu0, pu1, pu2, pu3, Nat.zero_add, Nat.reduceAdd, Nat.reduceBEq, Bool.or_false, Bool.false_or, Bool.or_true, Bool.true_or, Bool.false_eq_true, ↓reduceIte, Act.put, List.setIfInBounds_toArray, List.set_cons_zero, List.set_cons_succ]
        go_simp
        exact hK _ _ (sto_two tt _ _).1 ⟨_, rfl, es, (sto_two tt _ _).2⟩
      intro x w1 hU hS hR hlo hdis
      have h5 : NumIn _ _ _ _ _ _ := kval (hR 11 (by decide)) rfl
      have lo5 := hlo 11 (by decide)
      obtain ⟨cs6, -, q6, t6⟩ := kold (hR 12 (by decide)) rfl
      obtain ⟨b5, n5, f5, ⟨v5, e5, o5⟩, c5, l5, s5⟩ := h5
      rw [e5] at q6
      cases q6
      have T2' := hS.at T2 ⟨trivial, trivial, trivial, trivial, trivial, trivial, trivial, trivial, trivial, trivial, trivial, trivial, ne2, trivial⟩
      refine Veil.mk ?_; simp only [kgoal, putsFrom, depsOf, pu0, pu1, pu2, pu3, Nat.zero_add, Nat.reduceAdd, Nat.reduceBEq, Bool.or_false, Bool.false_or, Bool.or_true, Bool.true_or, Bool.false_eq_true, ↓reduceIte, Act.put, List.setIfInBounds_toArray, List.set_cons_zero, List.set_cons_succ]
      clear hR hdis hS
      go_wp2_with fail
      go_roundw
      case rel => exact ⟨j + 1, b5, v5, by omega, by go_num, t6, T2', hU, hide ⟨b5, n5, f5, ⟨_, rfl, o5.wide (by have := U3.size; omega) lo5.2.2⟩, c5, by show n5 ≤ sumN ns j + ns j + 2; omega, by rw [s5]; rfl⟩⟩
      case measure => simp [intOf]; omega

    · obtain rfl : j = k := by omega
      obtain ⟨d0, d1, -⟩ := cells2 T3
      obtain ⟨d2, d3, f2, f3, -⟩ := cells2 T2
      obtain ⟨tt, x2⟩ := sto_two T2 (.bool b) (.slice ao n cp)
      obtain ⟨y0, y1, -⟩ := cells2 x2
      have UF := tt.up u (Nat.le_refl _)
      have hsz := tt.size
      go_wp2_with fail
      refine bodyPost_ret (by simp [results, Tryd.results22, go_sem, y0, y1]; rfl) rfl ?_
      refine ⟨_, rfl, ?_, UF⟩
      obtain ⟨b', n', f', ⟨v', e', o'⟩, c', l', s'⟩ := unhide HN
      exact ⟨b', n', f', ⟨v', e', OwnIn.of (o'.1.turn tt T2 (by decide))⟩, c', l', s'⟩

end Go.Proofs.YtjbocfhmfidjjaaDoor
