/-
  What is proved here: the document's own division towards 0 (chapter 2), by values.
-/
import Derived.Test.YtdiacbfdfoeemaaDoorR2Con
import Derived.Test.YtdiacbfdfoeemaaDoorRDiv
namespace Go.Proofs.YtdiacbfdfoeemaaDoor
open Go Go.RowKit

set_option linter.unusedSimpArgs false in
set_option maxRecDepth 4000 in
set_option maxHeartbeats 4000000 in
theorem r2trunc_rd {X Y : Int} {M : Nat} {w : World} {a u : Value} (ha : RdD X M w a) (hu : RdD Y M w u) (hM : 2 * M + 3 ≤ 10000000000) :
    Calls Tryd.prog 35 #[a, u] w fun e w' => ∃ v, e = .returned v ∧ DivsIn (Int.tdiv X Y) (rz X Y) (decide (Y ≠ 0)) M w' w.heap.size w'.heap.size v ∧ Up w w' := by
  obtain ⟨b0, ao0, n0, cap0, rfl⟩ := ha.agg
  obtain ⟨b1, ao1, n1, cap1, rfl⟩ := hu.agg
  have U0 := ((((up_alloc w (.cells #[.bool b0, .slice ao0 n0 cap0] 26)).tr (up_alloc _ (.cells #[.bool b1, .slice ao1 n1 cap1] 26))).tr (up_alloc _ (.cells #[.bool false, .slice none 0 0] 26))).tr (up_alloc _ (.cells #[.bool false, .slice none 0 0] 26)))
  have K3 := hide (four_blocks w (.cells #[.bool b0, .slice ao0 n0 cap0] 26) (.cells #[.bool b1, .slice ao1 n1 cap1] 26) (.cells #[.bool false, .slice none 0 0] 26) (.cells #[.bool false, .slice none 0 0] 26))
  have HA := hide ha
  have HU := hide hu
  clear ha hu
  go_enter Tryd.func35, Tryd.ntmps35
  go_wp2_with fail
  refine (r2canon_rd ((unhide HA).up U0) (by omega)).mono ?_
  rintro e w1 ⟨v1, rfl, H1, u1⟩
  obtain ⟨ba, na, fa, ⟨va, rfl, oa⟩, ca, la, sa⟩ := H1
  obtain ⟨aoa, capa, rfl, -⟩ := id oa.sl
  obtain ⟨d0, d1, f0, f1, -⟩ := cells2 (Up.blk u1 (unhide K3).1)
  obtain ⟨t1, k1⟩ := sto_two (Up.blk u1 (unhide K3).1) (.bool ba) (.slice aoa na capa)
  have k2 := (t1.block _ (by omega)).trans (Up.blk u1 (unhide K3).2.1)
  have k3 := (t1.block _ (by omega)).trans (Up.blk u1 (unhide K3).2.2.1)
  have k4 := (t1.block _ (by omega)).trans (Up.blk u1 (unhide K3).2.2.2)
  have u2 : Up w _ := t1.up (U0.tr u1) (Nat.le_refl _)
  have oa2 := oa.keep (fun b hb _ => t1.block b (by simp at hb; omega))
  have z2 := t1.size
  obtain ⟨c0, c1, -⟩ := cells2 k2
  go_wp2_with fail
  generalize (w1.setCell ⟨w.heap.size, 0, none⟩ (.bool ba)).setCell ⟨w.heap.size, 1, none⟩ (.slice aoa na capa) = w2 at *
  clear d0 d1 f0 f1 t1 c0 c1
  refine (r2canon_rd ((unhide HU).up u2) (by omega)).mono ?_
  rintro e w3 ⟨v3, rfl, H3, u3⟩
  obtain ⟨bb, nb, fb, ⟨vb, rfl, ob⟩, cb, lb, sb⟩ := H3
  obtain ⟨aob, capb, rfl, -⟩ := id ob.sl
  obtain ⟨d0, d1, f0, f1, -⟩ := cells2 (Up.blk u3 k2)
  obtain ⟨t3, m2⟩ := sto_two (Up.blk u3 k2) (.bool bb) (.slice aob nb capb)
  have m1 := (t3.block _ (by omega)).trans (Up.blk u3 k1)
  have m3 := (t3.block _ (by omega)).trans (Up.blk u3 k3)
  have m4 := (t3.block _ (by omega)).trans (Up.blk u3 k4)
  have u4 : Up w _ := t3.up (u2.tr u3) (by omega)
  have oa4 := (oa2.keep (fun b _ hb => u3.block b (by omega))).keep (fun b hb _ => t3.block b (by simp at hb; omega))
  have ob4 := ob.keep (fun b hb _ => t3.block b (by have := u2.size; have := u1.size; simp at *; omega))
  obtain ⟨c0, c1, -⟩ := cells2 m1
  obtain ⟨c2, c3, -⟩ := cells2 m2
  go_wp2_with fail
  generalize (w3.setCell ⟨w.heap.size + 1, 0, none⟩ (.bool bb)).setCell ⟨w.heap.size + 1, 1, none⟩ (.slice aob nb capb) = w4 at *
  clear d0 d1 f0 f1 t3 c0 c1 c2 c3
  have ne02 : w.heap.size ≠ w.heap.size + 1 + 1 := by omega
  have ne03 : w.heap.size ≠ w.heap.size + 1 + 1 + 1 := by omega
  have ne12 : w.heap.size + 1 ≠ w.heap.size + 1 + 1 := by omega
  have ne13 : w.heap.size + 1 ≠ w.heap.size + 1 + 1 + 1 := by omega
  by_cases hz : num 4294967296 fb nb = 0
  · have hY : Y = 0 := by
      rw [← sb, hz]
      cases bb <;> rfl
    refine (rDiv_zero _ _ na nb fa fb _ oa4.sl ob4.sl ca.1.1 cb.1.1 (by omega) (by omega) hz).mono ?_
    rintro e w5 ⟨rfl, u5⟩
    have u5 : Up w4 w5 := u5
    have j3 := Up.blk u5 m3
    have j4 := Up.blk u5 m4
    obtain ⟨d0, d1, f0, f1, -⟩ := cells2 j3
    obtain ⟨t1, i3⟩ := sto_two j3 (.bool false) (.slice none 0 0)
    have i4 := (t1.block _ (by omega)).trans j4
    obtain ⟨d2, d3, f2, f3, -⟩ := cells2 i4
    obtain ⟨t2, x4⟩ := sto_two i4 (.bool false) (.slice none 0 0)
    have x3 := (t2.block _ (by omega)).trans i3
    obtain ⟨y0, y1, -⟩ := cells2 x3
    obtain ⟨y2, y3, -⟩ := cells2 x4
    have U5 : Up w _ := t2.up (t1.up (u4.tr u5) (by omega)) (by omega)
    go_wp2_with fail
    refine bodyPost_ret (by simp [results, Tryd.results35, go_sem, y0, y1, y2, y3]; rfl) rfl ?_
    subst hY
    exact ⟨_, rfl, ⟨_, _, rfl, ⟨false, 0, fun _ => 0, ⟨_, rfl, OwnIn.of (.inl ⟨rfl, rfl⟩)⟩, ⟨⟨fun i hi => by omega, .inl rfl⟩, fun h => by cases h⟩, by omega, by simp [sgn, num]⟩, ⟨false, 0, fun _ => 0, ⟨_, rfl, OwnIn.of (.inl ⟨rfl, rfl⟩)⟩, ⟨⟨fun i hi => by omega, .inl rfl⟩, fun h => by cases h⟩, by omega, by simp [sgn, num, rz]⟩⟩, U5⟩
  · have hY : Y ≠ 0 := by
      rw [← sb]
      cases bb <;> simp [sgn] <;> omega
    have HOK := hide (decide_eq_true hY)
    refine (rDiv_any _ _ na nb fa fb _ oa4.sl ob4.sl ca.1.1 cb.1.1 (by omega) (by omega) (by omega)).mono ?_
    rintro e w5 H
    obtain ⟨nq, nr, fq, fr, vq, vr, rfl, oq, or, u5, cq, cr, sq, sr⟩ := unhide H
    have u5 : Up w4 w5 := u5
    have lq : nq ≤ M := can_pow (by decide) cq (by have := num_lt_pow ca.1.1 la; have := Nat.div_le_self (num 4294967296 fa na) (num 4294967296 fb nb); omega)
    have lr : nr ≤ M := can_pow (by decide) cr (by have := num_lt_pow ca.1.1 la; have := Nat.mod_le (num 4294967296 fa na) (num 4294967296 fb nb); omega)
    have HV := hide (show sgn (ba != bb) (num 4294967296 fq nq) = Int.tdiv X Y ∧ sgn ba (num 4294967296 fr nr) = rz X Y from by
      unfold rz
      rw [if_neg hY, sq, sr, ← sa, ← sb]
      exact ⟨sgn_tdiv ba bb _ _, sgn_tmod ba bb _ _⟩)
    clear H sq sr sa sb hz hY
    replace m1 := Up.blk u5 m1
    replace m2 := Up.blk u5 m2
    replace m3 := Up.blk u5 m3
    replace m4 := Up.blk u5 m4
    have U5 := u4.tr u5
    obtain ⟨aoq, capq, rfl, -⟩ := id oq.sl
    obtain ⟨aor, capr, rfl, -⟩ := id or.sl
    go_wp2_with fail
    refine wp_region_knd (by kernel_rfl) w U5 [[], [0], [], [2], [1, 3], [], [4, 5], [], [7], [], [8, 9], [6], [10], []] [.val [] (fun _ g _ => g.v = .pointer (some ⟨w.heap.size, 0, none⟩)), .val [] (fun _ g _ => g.v = .bool ba), .val [] (fun _ g _ => g.v = .pointer (some ⟨w.heap.size + 1, 0, none⟩)), .val [] (fun _ g _ => g.v = .bool bb), .val [] (fun _ g _ => g.v = .bool (ba != bb)), .val [] (fun _ g _ => g.v = .slice aoq nq capq), .val [] (fun w g _ => NumIn (Int.tdiv X Y) M w g.lo g.hi g.v), .val [] (fun _ g _ => g.v = .pointer (some ⟨w.heap.size, 0, none⟩)), .val [] (fun _ g _ => g.v = .bool ba), .val [] (fun _ g _ => g.v = .slice aor nr capr), .val [] (fun w g _ => NumIn (rz X Y) M w g.lo g.hi g.v), .old (w.heap.size + 1 + 1) 6 26 2, .old (w.heap.size + 1 + 1 + 1) 10 26 2, .val [] (fun _ g _ => g.v = .bool true)] (by kernel_rfl) (by kernel_rfl) rfl ⟨trivial, trivial, trivial, trivial, trivial, trivial, trivial, trivial, trivial, trivial, trivial, ⟨by omega, (Array.getElem?_eq_some_iff.1 m3).1, by simp [oldG]⟩, ⟨by omega, (Array.getElem?_eq_some_iff.1 m4).1, by simp [oldG]⟩, trivial, trivial⟩ ⟨fun _ _ _ _ _ h => h, fun _ _ _ _ _ h => h, fun _ _ _ _ _ h => h, fun _ _ _ _ _ h => h, fun _ _ _ _ _ h => h, fun _ _ _ _ _ h => h, fun _ _ _ _ hb h => h.keep hb, fun _ _ _ _ _ h => h, fun _ _ _ _ _ h => h, fun _ _ _ _ _ h => h, fun _ _ _ _ hb h => h.keep hb, trivial, trivial, fun _ _ _ _ _ h => h, trivial⟩ ⟨?_, ?_, ?_, ?_, ?_, ?_, ?_, ?_, ?_, ?_, ?_, ?_, ?_, ?_, trivial⟩ ?_
    · intro x w1 K hU hS hO hd hK
      refine Veil.mk ?_; simp only [kgoal, putsFrom, depsOf, pu0, pu1, pu2, pu3, Nat.zero_add, Nat.reduceAdd, Nat.reduceBEq, Bool.or_false, Bool.false_or, Bool.or_true, Bool.true_or, Bool.false_eq_true, ↓reduceIte, Act.put, List.setIfInBounds_toArray, List.set_cons_zero, List.set_cons_succ]
      go_simp
      exact hK _ _ (Up.refl _) rfl
    · intro x w1 K hU hS hO hd hK
      have h0 : (x 0).v = _ := kval (hd 0 (by decide)).1 rfl
      obtain ⟨c0, c1, -⟩ := cells2 (hS.at m1 ⟨trivial, trivial, trivial, trivial, trivial, trivial, trivial, trivial, trivial, trivial, trivial, ne02, ne03, trivial, trivial⟩)
      refine Veil.mk ?_; simp only [kgoal, putsFrom, depsOf, pu0, pu1, pu2, pu3, Nat.zero_add, Nat.reduceAdd, Nat.reduceBEq, Bool.or_false, Bool.false_or, Bool.or_true, Bool.true_or, Bool.false_eq_true, ↓reduceIte, Act.put, List.setIfInBounds_toArray, List.set_cons_zero, List.set_cons_succ]
      go_simp
      exact hK _ _ (Up.refl _) rfl
    · intro x w1 K hU hS hO hd hK
      refine Veil.mk ?_; simp only [kgoal, putsFrom, depsOf, pu0, pu1, pu2, pu3, Nat.zero_add, Nat.reduceAdd, Nat.reduceBEq, Bool.or_false, Bool.false_or, Bool.or_true, Bool.true_or, Bool.false_eq_true, ↓reduceIte, Act.put, List.setIfInBounds_toArray, List.set_cons_zero, List.set_cons_succ]
      go_simp
      exact hK _ _ (Up.refl _) rfl
    · intro x w1 K hU hS hO hd hK
      have h0 : (x 2).v = _ := kval (hd 2 (by decide)).1 rfl
      obtain ⟨c0, c1, -⟩ := cells2 (hS.at m2 ⟨trivial, trivial, trivial, trivial, trivial, trivial, trivial, trivial, trivial, trivial, trivial, ne12, ne13, trivial, trivial⟩)
      refine Veil.mk ?_; simp only [kgoal, putsFrom, depsOf, pu0, pu1, pu2, pu3, Nat.zero_add, Nat.reduceAdd, Nat.reduceBEq, Bool.or_false, Bool.false_or, Bool.or_true, Bool.true_or, Bool.false_eq_true, ↓reduceIte, Act.put, List.setIfInBounds_toArray, List.set_cons_zero, List.set_cons_succ]
      go_simp
      exact hK _ _ (Up.refl _) rfl
    · intro x w1 K hU hS hO hd hK
      have h1 : (x 1).v = _ := kval (hd 1 (by decide)).1 rfl
      have h3 : (x 3).v = _ := kval (hd 3 (by decide)).1 rfl
      clear hd
      refine Veil.mk ?_; simp only [kgoal, putsFrom, depsOf, pu0, pu1, pu2, pu3, Nat.zero_add, Nat.reduceAdd, Nat.reduceBEq, Bool.or_false, Bool.false_or, Bool.or_true, Bool.true_or, Bool.false_eq_true, ↓reduceIte, Act.put, List.setIfInBounds_toArray, List.set_cons_zero, List.set_cons_succ]
      simp only [h1, h3]
      go_simp
      exact hK _ _ (Up.refl _) (by cases ba <;> cases bb <;> rfl)
    · intro x w1 K hU hS hO hd hK
      refine Veil.mk ?_; simp only [kgoal, putsFrom, depsOf, pu0, pu1, pu2, pu3, Nat.zero_add, Nat.reduceAdd, Nat.reduceBEq, Bool.or_false, Bool.false_or, Bool.or_true, Bool.true_or, Bool.false_eq_true, ↓reduceIte, Act.put, List.setIfInBounds_toArray, List.set_cons_zero, List.set_cons_succ]
      go_simp
      exact hK _ _ (Up.refl _) rfl
    · intro x w1 K hU hS hO hd hK
      have hi : (x 4).v = _ := kval (hd 4 (by decide)).1 rfl
      have hj : (x 5).v = _ := kval (hd 5 (by decide)).1 rfl
      clear hd
      refine Veil.mk ?_; simp only [kgoal, putsFrom, depsOf, pu0, pu1, pu2, pu3, Nat.zero_add, Nat.reduceAdd, Nat.reduceBEq, Bool.or_false, Bool.false_or, Bool.or_true, Bool.true_or, Bool.false_eq_true, ↓reduceIte, Act.put, List.setIfInBounds_toArray, List.set_cons_zero, List.set_cons_succ]
      simp only [hi, hj]
      go_simp
      refine (r2of_any (ba != bb) _ nq fq _ ((oq.up (up_drew _)).since hS ⟨trivial, trivial, trivial, trivial, trivial, trivial, trivial, trivial, trivial, trivial, trivial, ⟨_, _, m3, by decide⟩, ⟨_, _, m4, by decide⟩, trivial, trivial⟩).sl cq.1 (by omega)).mono ?_
      rintro e w2 ⟨a2, b2, n2, f2, rfl, o2, u2, c2, l2, s2⟩
      exact hK _ _ u2 ⟨b2, n2, f2, CopIn.of o2, c2, by omega, by rw [s2]; exact (unhide HV).1⟩
    · intro x w1 K hU hS hO hd hK
      refine Veil.mk ?_; simp only [kgoal, putsFrom, depsOf, pu0, pu1, pu2, pu3, Nat.zero_add, Nat.reduceAdd, Nat.reduceBEq, Bool.or_false, Bool.false_or, Bool.or_true, Bool.true_or, Bool.false_eq_true, ↓reduceIte, Act.put, List.setIfInBounds_toArray, List.set_cons_zero, List.set_cons_succ]
      go_simp
      exact hK _ _ (Up.refl _) rfl
    · intro x w1 K hU hS hO hd hK
      have h0 : (x 7).v = _ := kval (hd 7 (by decide)).1 rfl
      obtain ⟨c0, c1, -⟩ := cells2 (hS.at m1 ⟨trivial, trivial, trivial, trivial, trivial, trivial, trivial, trivial, trivial, trivial, trivial, ne02, ne03, trivial, trivial⟩)
      refine Veil.mk ?_; simp only [kgoal, putsFrom, depsOf, pu0, pu1, pu2, pu3, Nat.zero_add, Nat.reduceAdd, Nat.reduceBEq, Bool.or_false, Bool.false_or, Bool.or_true, Bool.true_or, Bool.false_eq_true, ↓reduceIte, Act.put, List.setIfInBounds_toArray, List.set_cons_zero, List.set_cons_succ]
      go_simp
      exact hK _ _ (Up.refl _) rfl
    · intro x w1 K hU hS hO hd hK
      refine Veil.mk ?_; simp only [kgoal, putsFrom, depsOf, pu0, pu1, pu2, pu3, Nat.zero_add, Nat.reduceAdd, Nat.reduceBEq, Bool.or_false, Bool.false_or, Bool.or_true, Bool.true_or, Bool.false_eq_true, ↓reduceIte, Act.put, List.setIfInBounds_toArray, List.set_cons_zero, List.set_cons_succ]
      go_simp
      exact hK _ _ (Up.refl _) rfl
    · intro x w1 K hU hS hO hd hK
      have hi : (x 8).v = _ := kval (hd 8 (by decide)).1 rfl
      have hj : (x 9).v = _ := kval (hd 9 (by decide)).1 rfl
      clear hd
      refine Veil.mk ?_; simp only [kgoal, putsFrom, depsOf, pu0, pu1, pu2, pu3, Nat.zero_add, Nat.reduceAdd, Nat.reduceBEq, Bool.or_false, Bool.false_or, Bool.or_true, Bool.true_or, Bool.false_eq_true, ↓reduceIte, Act.put, List.setIfInBounds_toArray, List.set_cons_zero, List.set_cons_succ]
      simp only [hi, hj]
      go_simp
      refine (r2of_any ba _ nr fr _ ((or.up (up_drew _)).since hS ⟨trivial, trivial, trivial, trivial, trivial, trivial, trivial, trivial, trivial, trivial, trivial, ⟨_, _, m3, by decide⟩, ⟨_, _, m4, by decide⟩, trivial, trivial⟩).sl cr.1 (by omega)).mono ?_
      rintro e w2 ⟨a2, b2, n2, f2, rfl, o2, u2, c2, l2, s2⟩
      exact hK _ _ u2 ⟨b2, n2, f2, CopIn.of o2, c2, by omega, by rw [s2]; exact (unhide HV).2⟩
    · intro x w1 K hU hS hO hd hK
      have h8 : NumIn _ _ _ _ _ _ := kval (hd 6 (by decide)).1 rfl
      obtain ⟨b8, n8, f8, ⟨v8, es, o8⟩, -⟩ := h8
      obtain ⟨ao8, cap8, rfl, -⟩ := id o8.sl
      have tt := (hO 11 _ _ rfl rfl (.inl rfl)).trans m3
      obtain ⟨d0, d1, f0, f1, -⟩ := cells2 tt
      clear hd
      refine Veil.mk ?_; simp only [kgoal, putsFrom, depsOf, pu0, pu1, pu2, pu3, Nat.zero_add, Nat.reduceAdd, Nat.reduceBEq, Bool.or_false, Bool.false_or, Bool.or_true, Bool.true_or, Bool.false_eq_true, ↓reduceIte, Act.put, List.setIfInBounds_toArray, List.set_cons_zero, List.set_cons_succ]
      go_simp
      exact hK _ _ (sto_two tt _ _).1 ⟨_, rfl, es, (sto_two tt _ _).2⟩
    · intro x w1 K hU hS hO hd hK
      have h8 : NumIn _ _ _ _ _ _ := kval (hd 10 (by decide)).1 rfl
      obtain ⟨b8, n8, f8, ⟨v8, es, o8⟩, -⟩ := h8
      obtain ⟨ao8, cap8, rfl, -⟩ := id o8.sl
      have tt := (hO 12 _ _ rfl rfl (.inl rfl)).trans m4
      obtain ⟨d0, d1, f0, f1, -⟩ := cells2 tt
      clear hd
      refine Veil.mk ?_; simp only [kgoal, putsFrom, depsOf, pu0, pu1, pu2, pu3, Nat.zero_add, Nat.reduceAdd, Nat.reduceBEq, Bool.or_false, Bool.false_or, Bool.or_true, Bool.true_or, Bool.false_eq_true, ↓reduceIte, Act.put, List.setIfInBounds_toArray, List.set_cons_zero, List.set_cons_succ]
      go_simp
      exact hK _ _ (sto_two tt _ _).1 ⟨_, rfl, es, (sto_two tt _ _).2⟩
    · intro x w1 K hU hS hO hd hK
      refine Veil.mk ?_; simp only [kgoal, putsFrom, depsOf, pu0, pu1, pu2, pu3, Nat.zero_add, Nat.reduceAdd, Nat.reduceBEq, Bool.or_false, Bool.false_or, Bool.or_true, Bool.true_or, Bool.false_eq_true, ↓reduceIte, Act.put, List.setIfInBounds_toArray, List.set_cons_zero, List.set_cons_succ]
      go_simp
      exact hK _ _ (Up.refl _) rfl
    intro x w1 hU hS hR hlo hdis
    have h6 : NumIn _ _ _ _ _ _ := kval (hR 6 (by decide)) rfl
    have h10 : NumIn _ _ _ _ _ _ := kval (hR 10 (by decide)) rfl
    have h13 : (x 13).v = _ := kval (hR 13 (by decide)) rfl
    have lo6 := hlo 6 (by decide)
    have lo10 := hlo 10 (by decide)
    obtain ⟨cs1, -, q1, t1⟩ := kold (hR 11 (by decide)) rfl
    obtain ⟨cs2, -, q2, t2⟩ := kold (hR 12 (by decide)) rfl
    obtain ⟨b6, n6, f6, ⟨v6, e6, o6⟩, c6, l6, s6⟩ := h6
    obtain ⟨b7, n7, f7, ⟨v7, e7, o7⟩, c7, l7, s7⟩ := h10
    rw [e6] at q1
    cases q1
    rw [e7] at q2
    cases q2
    obtain ⟨d0, d1, -⟩ := cells2 t1
    obtain ⟨d2, d3, -⟩ := cells2 t2
    refine Veil.mk ?_; simp only [kgoal, putsFrom, depsOf, pu0, pu1, pu2, pu3, Nat.zero_add, Nat.reduceAdd, Nat.reduceBEq, Bool.or_false, Bool.false_or, Bool.or_true, Bool.true_or, Bool.false_eq_true, ↓reduceIte, Act.put, List.setIfInBounds_toArray, List.set_cons_zero, List.set_cons_succ]
    rw [h13]
    clear hR hdis hS
    go_wp2_with fail
    refine bodyPost_ret (by simp [results, Tryd.results35, go_sem, d0, d1, d2, d3]; rfl) rfl ?_
    exact ⟨_, rfl, ⟨_, _, by rw [unhide HOK], ⟨b6, n6, f6, ⟨_, rfl, o6.wide (by have := U5.size; omega) lo6.2.2⟩, c6, l6, s6⟩, ⟨b7, n7, f7, ⟨_, rfl, o7.wide (by have := U5.size; omega) lo10.2.2⟩, c7, l7, s7⟩⟩, hU⟩

end Go.Proofs.YtdiacbfdfoeemaaDoor
