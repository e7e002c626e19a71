/-
  What is proved here: num.Floor divides downwards, and says so; by 0 it says false.
-/
import Derived.Test.YtjbocfhmfidjjaaDoorNReg
namespace Go.Proofs.YtjbocfhmfidjjaaDoor
open Go Go.RowKit

/-- How num.Floor ends. -/
def FloorEnd (X Y : Int) (ok : Bool) (M : Nat) (w : World) (e : Ending) (w' : World) : Prop := ∃ (aq ar : Value) (bq br : Bool) (nq nr : Nat) (fq fr : Nat → Nat), e = .returned (.tuple #[aq, ar, .bool ok]) ∧ OwnN w' w.heap.size aq bq nq fq ∧ OwnN w' w.heap.size ar br nr fr ∧ Up w w' ∧ CanZ bq fq nq ∧ CanZ br fr nr ∧ nq ≤ M + 2 ∧ nr ≤ M + 2 ∧
      sgn bq (num 4294967296 fq nq) = Int.fdiv X Y ∧ sgn br (num 4294967296 fr nr) = (if Y = 0 then 0 else Int.fmod X Y)

theorem fdiv_of_tmod {X Y : Int} (h : Y = 0 ∨ Int.tmod X Y = 0) : Int.fdiv X Y = Int.tdiv X Y := by
  rcases h with rfl | h
  · simp
  · obtain ⟨k, rfl⟩ := Int.dvd_of_tmod_eq_zero h
    by_cases h0 : Y = 0
    · subst h0
      simp
    · rw [Int.mul_fdiv_cancel_left k h0, Int.mul_tdiv_cancel_left k h0]
theorem fmod_of_tmod {X Y : Int} (h : Y = 0 ∨ Int.tmod X Y = 0) : (if Y = 0 then 0 else Int.fmod X Y) = rz X Y := by
  unfold rz
  by_cases h0 : Y = 0
  · rw [if_pos h0, if_pos h0]
  · rw [if_neg h0, if_neg h0]
    rcases h with h | h
    · exact absurd h h0
    · rw [h]
      exact Int.fmod_eq_zero_of_dvd (Int.dvd_of_tmod_eq_zero h)

theorem fdiv_uniq {X Y q r : Int} (h : Y * q + r = X) (hr : (0 < Y ∧ 0 ≤ r ∧ r < Y) ∨ (Y < 0 ∧ Y < r ∧ r ≤ 0)) : Int.fdiv X Y = q ∧ Int.fmod X Y = r := by
  have h1 : Int.fdiv X Y = q := by
    rcases hr with ⟨h0, h1, h2⟩ | ⟨h0, h1, h2⟩
    · rw [Int.fdiv_eq_ediv_of_nonneg X (by omega)]
      exact ((Int.ediv_emod_unique h0).2 ⟨by omega, h1, h2⟩).1
    · have e : Int.fdiv X Y = Int.fdiv (-X) (-Y) := by rw [Int.neg_fdiv_neg]
      rw [e, Int.fdiv_eq_ediv_of_nonneg _ (by omega)]
      exact ((Int.ediv_emod_unique (by omega : 0 < -Y)).2 ⟨by rw [← h, Int.neg_mul, Int.neg_add]; omega, by omega, by omega⟩ : _ ∧ (-X) % (-Y) = -r).1
  refine ⟨h1, ?_⟩
  rw [Int.fmod_def, h1]
  omega
theorem tmod_small {X Y : Int} (h : Y ≠ 0) : (Int.tmod X Y).natAbs < Y.natAbs := by
  rw [Int.natAbs_tmod]
  exact Nat.mod_lt _ (by omega)
theorem floor_same {X Y : Int} (h0 : Y ≠ 0) (hs : (0 < Y ∧ 0 ≤ Int.tmod X Y) ∨ (Y < 0 ∧ Int.tmod X Y ≤ 0)) : Int.fdiv X Y = Int.tdiv X Y ∧ Int.fmod X Y = Int.tmod X Y := by
  have := tmod_small (X := X) h0
  exact fdiv_uniq (Int.mul_tdiv_add_tmod X Y) (by omega)
theorem floor_turn {X Y : Int} (h0 : Y ≠ 0) (hs : (0 < Y ∧ Int.tmod X Y < 0) ∨ (Y < 0 ∧ 0 < Int.tmod X Y)) : Int.fdiv X Y = Int.tdiv X Y - 1 ∧ Int.fmod X Y = Int.tmod X Y + Y := by
  have := tmod_small (X := X) h0
  have h1 := Int.mul_tdiv_add_tmod X Y
  exact fdiv_uniq (by rw [Int.mul_sub]; omega) (by omega)

set_option linter.unusedSimpArgs false in
set_option maxRecDepth 4000 in
set_option maxHeartbeats 4000000 in
theorem floor_any (a u : Value) (ba bu : Bool) (n m M : Nat) (f h : Nat → Nat) (X Y : Int) (w : World) (ha : Nm w a ba n f) (hu : Nm w u bu m h) (hf : ∀ i, i < n → f i < 4294967296) (hh : ∀ i, i < m → h i < 4294967296) (hn : n ≤ M) (hm : m ≤ M) (hM : 4 * (M + 3) ≤ 281474976710656)
    (hX : sgn ba (num 4294967296 f n) = X) (hY : sgn bu (num 4294967296 h m) = Y) :
    Calls Tryd.prog 36 #[a, u] w fun e w' => FloorEnd X Y (decide (Y ≠ 0)) M w e w' := by
  obtain ⟨v, rfl, hv⟩ := ha
  obtain ⟨v', rfl, hu⟩ := hu
  obtain ⟨ao, cap, rfl, -⟩ := id hv
  obtain ⟨ao', cap', rfl, -⟩ := id hu
  have U0 := ((((up_alloc w (.cells #[.bool ba, .slice ao n cap] 26)).tr (up_alloc _ (.cells #[.bool bu, .slice ao' m cap'] 26))).tr (up_alloc _ (.cells #[.bool false, .slice none 0 0] 26))).tr (up_alloc _ (.cells #[.bool false, .slice none 0 0] 26)))
  have K4 := hide (four_blocks w (.cells #[.bool ba, .slice ao n cap] 26) (.cells #[.bool bu, .slice ao' m cap'] 26) (.cells #[.bool false, .slice none 0 0] 26) (.cells #[.bool false, .slice none 0 0] 26))
  have HV := hide (And.intro hv (And.intro hu (And.intro hf hh)))
  have HXY := hide (And.intro hX hY)
  obtain ⟨ok, hok⟩ : ∃ ok, ok = decide (Y ≠ 0) := ⟨_, rfl⟩
  have HOK := hide hok
  rw [← hok]
  clear hv hu hf hh hX hY hok
  go_enter Tryd.func36, Tryd.ntmps36
  go_wp2_with fail
  refine (work_any _ bu m h _ ⟨_, rfl, (unhide HV).2.1.up U0⟩ (unhide HV).2.2.2).mono ?_
  rintro e w1 ⟨a1, b1, m1, rfl, hw1, u1, c1, l1, s1⟩
  obtain ⟨v1, rfl, sv1⟩ := hw1 w ⟨_, rfl, (unhide HV).2.1⟩
  obtain ⟨ao1, cap1, rfl, -⟩ := id sv1
  have H1 := hide (And.intro sv1 (And.intro c1 s1))
  have hz1 : w.heap.size + 3 < w1.heap.size := by have := Below.size u1; simp at this; omega
  have UB := hide (u1.tr ((up_alloc w1 (.cells #[.slice ao1 m1 cap1, .bool b1] 51)).tr (up_drew _)))
  have UW0 := (U0.tr u1).tr (up_alloc w1 (.cells #[.slice ao1 m1 cap1, .bool b1] 51))
  have B7 : (w1.alloc (.cells #[.slice ao1 m1 cap1, .bool b1] 51)).drew.heap[w1.heap.size]? = some (.cells #[.slice ao1 m1 cap1, .bool b1] 51 (0, 0)) := heap_alloc_new w1 _
  clear hw1 sv1 c1 s1 U0 u1
  go_wp2_with fail
  refine wp_region_knd (by kernel_rfl) w UW0 [[], [0], [], [1, 2], [3], [4, 3], [4, 3], [4, 3], [], [], [8, 5, 4, 3], [9, 6, 4, 3], [7]] [.val [] (fun _ g _ => g.v = .agg #[.bool ba, .slice ao n cap]), .val [] (fun _ g _ => Wkd (.agg #[.bool ba, .slice ao n cap]) ba n f g.v), .val [] (fun _ g _ => g.v = .agg #[.slice ao1 m1 cap1, .bool b1]),
    .val [] (fun w g _ => DivR X Y ok (M + 1) M w g.lo g.hi g.v), .val [3] (fun _ g vs => vs = [g.v]), .val [4] (fun _ g vs => ∃ b c, vs = [.tuple #[g.v, b, c]]), .val [4] (fun _ g vs => ∃ b c, vs = [.tuple #[b, g.v, c]]), .val [4] (fun _ g vs => ∃ b c, vs = [.tuple #[b, c, g.v]]), .box 51 2, .box 51 2, .sto 8 5 51 2, .sto 9 6 51 2, .val [7] (fun _ g vs => vs = [g.v])]
    (by kernel_rfl) (by kernel_rfl) rfl ⟨trivial, trivial, trivial, trivial, trivial, trivial, trivial, trivial, trivial, trivial, trivial, trivial, trivial, trivial⟩ ⟨fun _ _ _ _ _ h => h, fun _ _ _ _ _ h => h, fun _ _ _ _ _ h => h, fun _ _ _ _ hb h => h.keep hb, fun _ _ _ _ _ h => h, fun _ _ _ _ _ h => h, fun _ _ _ _ _ h => h, fun _ _ _ _ _ h => h, trivial, trivial, trivial, trivial, fun _ _ _ _ _ h => h, trivial⟩ ⟨?_, ?_, ?_, ?_, ?_, ?_, ?_, ?_, ?_, ?_, ?_, ?_, ?_, trivial⟩ ?_
  · intro x w2 K hU hS hO hd hK
    obtain ⟨c0, c1, -⟩ := cells2 (Up.blk ((unhide UB).tr (hS.upb rfl)) (unhide K4).1)
    refine Veil.mk ?_; simp only [kgoal, putsFrom, depsOf, pu0, pu1, pu2, pu3, Nat.zero_add, Nat.reduceAdd, Nat.reduceBEq, Bool.or_false, Bool.false_or, Bool.or_true, Bool.true_or, Bool.false_eq_true, ↓reduceIte, Act.put, List.setIfInBounds_toArray, List.set_cons_zero, List.set_cons_succ]
    go_simp
    exact hK _ _ (Up.refl _) rfl
  · intro x w2 K hU hS hO hd hK
    have h0 : (x 0).v = _ := kval (hd 0 (by decide)).1 rfl
    refine Veil.mk ?_; simp only [kgoal, putsFrom, depsOf, pu0, pu1, pu2, pu3, Nat.zero_add, Nat.reduceAdd, Nat.reduceBEq, Bool.or_false, Bool.false_or, Bool.or_true, Bool.true_or, Bool.false_eq_true, ↓reduceIte, Act.put, List.setIfInBounds_toArray, List.set_cons_zero, List.set_cons_succ]
    go_simp
    refine (work_any _ ba n f _ ⟨_, rfl, (unhide HV).1.up hU⟩ (unhide HV).2.2.1).mono ?_
    rintro e w3 ⟨a3, b3, m3, rfl, hw3, u3, c3, l3, s3⟩
    exact hK _ _ u3 ⟨b3, m3, hw3, c3, l3, s3⟩
  · intro x w2 K hU hS hO hd hK
    obtain ⟨c0, c1, -⟩ := cells2 (Up.blk (hS.upb rfl) B7)
    refine Veil.mk ?_; simp only [kgoal, putsFrom, depsOf, pu0, pu1, pu2, pu3, Nat.zero_add, Nat.reduceAdd, Nat.reduceBEq, Bool.or_false, Bool.false_or, Bool.or_true, Bool.true_or, Bool.false_eq_true, ↓reduceIte, Act.put, List.setIfInBounds_toArray, List.set_cons_zero, List.set_cons_succ]
    go_simp
    exact hK _ _ (Up.refl _) rfl
  · intro x w2 K hU hS hO hd hK
    have h1 : Wkd (.agg #[.bool ba, .slice ao n cap]) ba n f (x 1).v := kval (hd 1 (by decide)).1 rfl
    obtain ⟨b3, m3, hw3, c3, l3, s3⟩ := h1
    have e2 : (x 2).v = _ := kval (hd 2 (by decide)).1 rfl
    obtain ⟨v3, e3, sv3⟩ := hw3 w ⟨_, rfl, (unhide HV).1⟩
    obtain ⟨ao3, cap3, rfl, -⟩ := id sv3
    clear hd
    refine Veil.mk ?_; simp only [kgoal, putsFrom, depsOf, pu0, pu1, pu2, pu3, Nat.zero_add, Nat.reduceAdd, Nat.reduceBEq, Bool.or_false, Bool.false_or, Bool.or_true, Bool.true_or, Bool.false_eq_true, ↓reduceIte, Act.put, List.setIfInBounds_toArray, List.set_cons_zero, List.set_cons_succ]
    go_simp
    refine (divide_all _ _ b3 b1 m3 m1 (M + 1) M f h X Y _ ⟨_, rfl, sv3.up hU⟩ ⟨_, rfl, (unhide H1).1.up hU⟩ c3.1.1 (unhide H1).2.1.1.1 (by omega) (s3.trans (unhide HXY).1) ((unhide H1).2.2.trans (unhide HXY).2) (by omega) (by omega) ok (unhide HOK)).mono ?_
    rintro e w4 ⟨v4, rfl, h4, u4⟩
    exact hK _ _ u4 h4
  · intro x w2 K hU hS hO hd hK
    refine Veil.mk ?_; simp only [kgoal, putsFrom, depsOf, pu0, pu1, pu2, pu3, Nat.zero_add, Nat.reduceAdd, Nat.reduceBEq, Bool.or_false, Bool.false_or, Bool.or_true, Bool.true_or, Bool.false_eq_true, ↓reduceIte, Act.put, List.setIfInBounds_toArray, List.set_cons_zero, List.set_cons_succ]
    go_simp
    exact hK _ _ (Up.refl _) rfl
  · intro x w2 K hU hS hO hd hK
    have h3 : DivR X Y ok (M + 1) M w2 (x 3).lo (x 3).hi (x 3).v := kval (hd 3 (by decide)).1 rfl
    obtain ⟨vq, vr, bq, br, nq, nr, fq, fr, e3, -⟩ := h3
    have e4 : [(x 3).v] = [(x 4).v] := kval (hd 4 (by decide)).1 rfl
    have e4' : (x 4).v = _ := (List.cons.inj e4).1.symm.trans e3
    clear hd
    refine Veil.mk ?_; simp only [kgoal, putsFrom, depsOf, pu0, pu1, pu2, pu3, Nat.zero_add, Nat.reduceAdd, Nat.reduceBEq, Bool.or_false, Bool.false_or, Bool.or_true, Bool.true_or, Bool.false_eq_true, ↓reduceIte, Act.put, List.setIfInBounds_toArray, List.set_cons_zero, List.set_cons_succ]
    go_simp
    exact hK _ _ (Up.refl _) ⟨_, _, by show [(x 4).v] = _; rw [e4']; rfl⟩
  · intro x w2 K hU hS hO hd hK
    have h3 : DivR X Y ok (M + 1) M w2 (x 3).lo (x 3).hi (x 3).v := kval (hd 3 (by decide)).1 rfl
    obtain ⟨vq, vr, bq, br, nq, nr, fq, fr, e3, -⟩ := h3
    have e4 : [(x 3).v] = [(x 4).v] := kval (hd 4 (by decide)).1 rfl
    have e4' : (x 4).v = _ := (List.cons.inj e4).1.symm.trans e3
    clear hd
    refine Veil.mk ?_; simp only [kgoal, putsFrom, depsOf, pu0, pu1, pu2, pu3, Nat.zero_add, Nat.reduceAdd, Nat.reduceBEq, Bool.or_false, Bool.false_or, Bool.or_true, Bool.true_or, Bool.false_eq_true, ↓reduceIte, Act.put, List.setIfInBounds_toArray, List.set_cons_zero, List.set_cons_succ]
    go_simp
    exact hK _ _ (Up.refl _) ⟨_, _, by show [(x 4).v] = _; rw [e4']; rfl⟩
  · intro x w2 K hU hS hO hd hK
    have h3 : DivR X Y ok (M + 1) M w2 (x 3).lo (x 3).hi (x 3).v := kval (hd 3 (by decide)).1 rfl
    obtain ⟨vq, vr, bq, br, nq, nr, fq, fr, e3, -⟩ := h3
    have e4 : [(x 3).v] = [(x 4).v] := kval (hd 4 (by decide)).1 rfl
    have e4' : (x 4).v = _ := (List.cons.inj e4).1.symm.trans e3
    clear hd
    refine Veil.mk ?_; simp only [kgoal, putsFrom, depsOf, pu0, pu1, pu2, pu3, Nat.zero_add, Nat.reduceAdd, Nat.reduceBEq, Bool.or_false, Bool.false_or, Bool.or_true, Bool.true_or, Bool.false_eq_true, ↓reduceIte, Act.put, List.setIfInBounds_toArray, List.set_cons_zero, List.set_cons_succ]
    go_simp
    exact hK _ _ (Up.refl _) ⟨_, _, by show [(x 4).v] = _; rw [e4']; rfl⟩
  · intro x w2 K hU hS hO hd hK
    refine Veil.mk ?_; simp only [kgoal, putsFrom, depsOf, pu0, pu1, pu2, pu3, Nat.zero_add, Nat.reduceAdd, Nat.reduceBEq, Bool.or_false, Bool.false_or, Bool.or_true, Bool.true_or, Bool.false_eq_true, ↓reduceIte, Act.put, List.setIfInBounds_toArray, List.set_cons_zero, List.set_cons_succ]
    go_simp
    exact hK _ _ (up_alloc _ _) (box_new rfl hS)
  · intro x w2 K hU hS hO hd hK
    refine Veil.mk ?_; simp only [kgoal, putsFrom, depsOf, pu0, pu1, pu2, pu3, Nat.zero_add, Nat.reduceAdd, Nat.reduceBEq, Bool.or_false, Bool.false_or, Bool.or_true, Bool.true_or, Bool.false_eq_true, ↓reduceIte, Act.put, List.setIfInBounds_toArray, List.set_cons_zero, List.set_cons_succ]
    go_simp
    exact hK _ _ (up_alloc _ _) (box_new rfl hS)
  · intro x w2 K hU hS hO hd hK
    obtain ⟨c0, c1, e8, h8⟩ := kbox2 (hd 8 (by decide)).1 rfl
    have e5 : ∃ b c, [(x 4).v] = [Value.tuple #[(x 5).v, b, c]] := kval (hd 5 (by decide)).1 rfl
    obtain ⟨b, c, e5⟩ := e5
    have h3 : DivR X Y ok (M + 1) M w2 (x 3).lo (x 3).hi (x 3).v := kval (hd 3 (by decide)).1 rfl
    obtain ⟨vq, vr, bq, br, nq, nr, fq, fr, e3, oq, -⟩ := h3
    have e4 : [(x 3).v] = [(x 4).v] := kval (hd 4 (by decide)).1 rfl
    have e4' : (x 4).v = _ := (List.cons.inj e4).1.symm.trans e3
    rw [e4'] at e5
    replace e5 : (x 5).v = .agg #[vq, .bool bq] := by
      exact (tup3 (List.cons.inj e5).1).1.symm
    obtain ⟨aoq, capq, rfl, -⟩ := id oq.sl
    obtain ⟨d0, d1, f0, f1, -⟩ := cells2 h8
    clear hd oq e4 e4' e3
    refine Veil.mk ?_; simp only [kgoal, putsFrom, depsOf, pu0, pu1, pu2, pu3, Nat.zero_add, Nat.reduceAdd, Nat.reduceBEq, Bool.or_false, Bool.false_or, Bool.or_true, Bool.true_or, Bool.false_eq_true, ↓reduceIte, Act.put, List.setIfInBounds_toArray, List.set_cons_zero, List.set_cons_succ]
    go_simp
    exact hK _ _ (sto_two h8 _ _).1 ⟨_, rfl, e5, (sto_two h8 _ _).2⟩
  · intro x w2 K hU hS hO hd hK
    obtain ⟨c0, c1, e8, h8⟩ := kbox2 (hd 9 (by decide)).1 rfl
    have e5 : ∃ b c, [(x 4).v] = [Value.tuple #[b, (x 6).v, c]] := kval (hd 6 (by decide)).1 rfl
    obtain ⟨b, c, e5⟩ := e5
    have h3 : DivR X Y ok (M + 1) M w2 (x 3).lo (x 3).hi (x 3).v := kval (hd 3 (by decide)).1 rfl
    obtain ⟨vq, vr, bq, br, nq, nr, fq, fr, e3, -, oq, -⟩ := h3
    have e4 : [(x 3).v] = [(x 4).v] := kval (hd 4 (by decide)).1 rfl
    have e4' : (x 4).v = _ := (List.cons.inj e4).1.symm.trans e3
    rw [e4'] at e5
    replace e5 : (x 6).v = .agg #[vr, .bool br] := by
      exact (tup3 (List.cons.inj e5).1).2.1.symm
    obtain ⟨aoq, capq, rfl, -⟩ := id oq.sl
    obtain ⟨d0, d1, f0, f1, -⟩ := cells2 h8
    clear hd oq e4 e4' e3
    refine Veil.mk ?_; simp only [kgoal, putsFrom, depsOf, pu0, pu1, pu2, pu3, Nat.zero_add, Nat.reduceAdd, Nat.reduceBEq, Bool.or_false, Bool.false_or, Bool.or_true, Bool.true_or, Bool.false_eq_true, ↓reduceIte, Act.put, List.setIfInBounds_toArray, List.set_cons_zero, List.set_cons_succ]
    go_simp
    exact hK _ _ (sto_two h8 _ _).1 ⟨_, rfl, e5, (sto_two h8 _ _).2⟩
  · intro x w2 K hU hS hO hd hK
    refine Veil.mk ?_; simp only [kgoal, putsFrom, depsOf, pu0, pu1, pu2, pu3, Nat.zero_add, Nat.reduceAdd, Nat.reduceBEq, Bool.or_false, Bool.false_or, Bool.or_true, Bool.true_or, Bool.false_eq_true, ↓reduceIte, Act.put, List.setIfInBounds_toArray, List.set_cons_zero, List.set_cons_succ]
    go_simp
    exact hK _ _ (Up.refl _) rfl
  · intro x w2 hU hS hR hlo hdis
    have hG := hS.upb rfl
    obtain ⟨e8, -⟩ := kbox (hR 8 (by decide)) rfl
    obtain ⟨e9, -⟩ := kbox (hR 9 (by decide)) rfl
    have h3 : DivR X Y ok (M + 1) M w2 (x 3).lo (x 3).hi (x 3).v := kval (hR 3 (by decide)) rfl
    obtain ⟨vq, vr, bq, br, nq, nr, fq, fr, e3, oq, or, cq, cr, lq, lr, sq, sr⟩ := h3
    have e4 : [(x 3).v] = [(x 4).v] := kval (hR 4 (by decide)) rfl
    have e4' : (x 4).v = _ := (List.cons.inj e4).1.symm.trans e3
    have e5 : ∃ b c, [(x 4).v] = [Value.tuple #[(x 5).v, b, c]] := kval (hR 5 (by decide)) rfl
    obtain ⟨p5, p5', e5⟩ := e5
    have e6 : ∃ b c, [(x 4).v] = [Value.tuple #[b, (x 6).v, c]] := kval (hR 6 (by decide)) rfl
    obtain ⟨p6, p6', e6⟩ := e6
    have e7 : ∃ b c, [(x 4).v] = [Value.tuple #[b, c, (x 7).v]] := kval (hR 7 (by decide)) rfl
    obtain ⟨p7, p7', e7⟩ := e7
    have e12 : [(x 7).v] = [(x 12).v] := kval (hR 12 (by decide)) rfl
    obtain ⟨cs8, -, q8, T8⟩ := ksto (hR 10 (by decide)) rfl
    obtain ⟨cs9, -, q9, T9⟩ := ksto (hR 11 (by decide)) rfl
    rw [e4'] at e5 e6 e7
    replace e5 : (x 5).v = .agg #[vq, .bool bq] := (tup3 (List.cons.inj e5).1).1.symm
    replace e6 : (x 6).v = .agg #[vr, .bool br] := (tup3 (List.cons.inj e6).1).2.1.symm
    replace e7 : (x 7).v = .bool ok := (tup3 (List.cons.inj e7).1).2.2.symm
    rw [e5] at q8
    cases q8
    rw [e6] at q9
    cases q9
    have e12' : (x 12).v = .bool ok := by rw [← e7]; exact (List.cons.inj e12).1.symm
    have hlt8 := hlo 8 (by decide)
    have hlt9 := hlo 9 (by decide)
    have hd89 := hdis 8 9 (by decide) (by decide) (by decide)
    have hne89 : (x 8).lo ≠ (x 9).lo := by
      have h8 := (kbox (hR 8 (by decide)) rfl).2
      have h9 := (kbox (hR 9 (by decide)) rfl).2
      omega
    have T4 := Up.blk ((unhide UB).tr hG) (unhide K4).2.2.1
    have T5 := Up.blk ((unhide UB).tr hG) (unhide K4).2.2.2
    have T7 := Up.blk hG B7
    have z8 : w1.heap.size + 1 ≤ (x 8).lo := by have := hlt8.1; simp at this; omega
    have z9 : w1.heap.size + 1 ≤ (x 9).lo := by have := hlt9.1; simp at this; omega
    have z3 : w1.heap.size + 1 ≤ (x 3).lo := by have := (hlo 3 (by decide)).1; simp at this; omega
    have OQ : Own .u32 64 w2 w.heap.size vq nq fq := oq.1.mono (by omega)
    have OR : Own .u32 64 w2 w.heap.size vr nr fr := or.1.mono (by omega)
    refine Veil.mk ?_; simp only [kgoal, putsFrom, depsOf, pu0, pu1, pu2, pu3, Nat.zero_add, Nat.reduceAdd, Nat.reduceBEq, Bool.or_false, Bool.false_or, Bool.or_true, Bool.true_or, Bool.false_eq_true, ↓reduceIte, Act.put, List.setIfInBounds_toArray, List.set_cons_zero, List.set_cons_succ]
    rw [e8, e9, e12']
    generalize (x 8).lo = g8 at *
    generalize (x 9).lo = g9 at *
    generalize (x 0).v = y0 at *
    generalize (x 1).v = y1 at *
    generalize (x 2).v = y2 at *
    generalize (x 3).v = y3 at *
    generalize (x 4).v = y4 at *
    generalize (x 5).v = y5 at *
    generalize (x 6).v = y6 at *
    generalize (x 7).v = y7 at *
    obtain ⟨d80, d81, f80, f81, -⟩ := cells2 T8
    obtain ⟨d90, d91, f90, f91, -⟩ := cells2 T9
    obtain ⟨d70, d71, -⟩ := cells2 T7
    have HQ := hide (And.intro sq (And.intro sr (And.intro cq (And.intro cr (And.intro lq lr)))))
    have HT := hide (And.intro T4 (And.intro T5 (And.intro T7 (And.intro T8 T9))))
    have HO := hide (And.intro OQ OR)
    have HU := hide hU
    clear hR hlo hdis hlt8 hlt9 hd89 hG hS oq or e3 e4 e4' e5 e6 e7 e8 e9 e12 e12' sq sr cq cr lq lr T4 T5 T7 T8 T9 OQ OR hU UB UW0 B7 K4
    obtain ⟨aoq, capq, rfl, -⟩ := id (unhide HO).1.sl
    obtain ⟨aor, capr, rfl, -⟩ := id (unhide HO).2.sl
    by_cases hnr : nr = 0
    · subst hnr
      go_wp2_with (go_at_call 65; refine (isZero_yes _ _ _).mono ?_; rintro e w3 ⟨rfl, rfl⟩)
      obtain ⟨T4, T5, T7, T8, T9⟩ := unhide HT
      obtain ⟨OQ, OR⟩ := unhide HO
      have UW := unhide HU
      obtain ⟨sq, sr, cQ, cR, lq, lr⟩ := unhide HQ
      have hy : Y = 0 ∨ Int.tmod X Y = 0 := by
        have e0 : rz X Y = 0 := by rw [← sr]; cases br <;> rfl
        unfold rz at e0
        by_cases h0 : Y = 0
        · exact .inl h0
        · rw [if_neg h0] at e0
          exact .inr e0
      have sQ : sgn bq (num 4294967296 fq nq) = Int.fdiv X Y := sq.trans (fdiv_of_tmod hy).symm
      have sR : sgn br (num 4294967296 fr 0) = (if Y = 0 then 0 else Int.fmod X Y) := sr.trans (fmod_of_tmod hy).symm
      have lQ : nq ≤ M + 2 := by omega
      have lR : 0 ≤ M + 2 := Nat.zero_le _
      clear HT HO HU HQ sq sr lq lr hy
      have n84 : g8 ≠ w.heap.size + 1 + 1 := by omega
      have n85 : g8 ≠ w.heap.size + 1 + 1 + 1 := by omega
      have n94 : g9 ≠ w.heap.size + 1 + 1 := by omega
      have n95 : g9 ≠ w.heap.size + 1 + 1 + 1 := by omega
      refine wp_region_knd (by kernel_rfl) w UW [[], [0], [], [2], [], [1, 0], [3, 2], [4]] [.val [] (fun _ g _ => g.v = .agg #[Value.slice aoq nq capq, .bool bq]), .val [] (fun _ g _ => g.v = .agg #[.bool bq, .slice aoq nq capq]), .val [] (fun _ g _ => g.v = .agg #[Value.slice aor 0 capr, .bool br]), .val [] (fun _ g _ => g.v = .agg #[.bool br, .slice aor 0 capr]), .val [] (fun _ g _ => g.v = .bool (ok)), .old (w.heap.size + 1 + 1) 1 26 2, .old (w.heap.size + 1 + 1 + 1) 3 26 2, .val [4] (fun _ g vs => vs = [g.v])] (by kernel_rfl) (by kernel_rfl) rfl ⟨trivial, trivial, trivial, trivial, trivial, ⟨by omega, (Array.getElem?_eq_some_iff.1 T4).1, by simp [oldG]⟩, ⟨by omega, (Array.getElem?_eq_some_iff.1 T5).1, by simp [oldG]⟩, trivial, trivial⟩ ⟨fun _ _ _ _ _ h => h, fun _ _ _ _ _ h => h, fun _ _ _ _ _ h => h, fun _ _ _ _ _ h => h, fun _ _ _ _ _ h => h, trivial, trivial, fun _ _ _ _ _ h => h, trivial⟩ ⟨?_, ?_, ?_, ?_, ?_, ?_, ?_, ?_, trivial⟩ ?_
      · intro x w1 K hU hS hO hd hK
        obtain ⟨c0, c1, -⟩ := cells2 (hS.at T8 ⟨trivial, trivial, trivial, trivial, trivial, n84, n85, trivial, trivial⟩)
        refine Veil.mk ?_; simp only [kgoal, putsFrom, depsOf, pu0, pu1, pu2, pu3, Nat.zero_add, Nat.reduceAdd, Nat.reduceBEq, Bool.or_false, Bool.false_or, Bool.or_true, Bool.true_or, Bool.false_eq_true, ↓reduceIte, Act.put, List.setIfInBounds_toArray, List.set_cons_zero, List.set_cons_succ]
        go_simp
        exact hK _ _ (Up.refl _) rfl
      · intro x w1 K hU hS hO hd hK
        have h0 : (x 0).v = _ := kval (hd 0 (by decide)).1 rfl
        refine Veil.mk ?_; simp only [kgoal, putsFrom, depsOf, pu0, pu1, pu2, pu3, Nat.zero_add, Nat.reduceAdd, Nat.reduceBEq, Bool.or_false, Bool.false_or, Bool.or_true, Bool.true_or, Bool.false_eq_true, ↓reduceIte, Act.put, List.setIfInBounds_toArray, List.set_cons_zero, List.set_cons_succ]
        go_simp
        refine (answer_any _ bq nq fq _ ⟨_, rfl, ((OQ.up (up_drew _)).since hS ⟨trivial, trivial, trivial, trivial, trivial, ⟨_, _, T4, by decide⟩, ⟨_, _, T5, by decide⟩, trivial, trivial⟩).sl⟩).mono ?_
        rintro e w2 ⟨a2, rfl, h2, u2⟩
        exact hK _ _ u2 (h2 _ rfl)
      · intro x w1 K hU hS hO hd hK
        obtain ⟨c0, c1, -⟩ := cells2 (hS.at T9 ⟨trivial, trivial, trivial, trivial, trivial, n94, n95, trivial, trivial⟩)
        refine Veil.mk ?_; simp only [kgoal, putsFrom, depsOf, pu0, pu1, pu2, pu3, Nat.zero_add, Nat.reduceAdd, Nat.reduceBEq, Bool.or_false, Bool.false_or, Bool.or_true, Bool.true_or, Bool.false_eq_true, ↓reduceIte, Act.put, List.setIfInBounds_toArray, List.set_cons_zero, List.set_cons_succ]
        go_simp
        exact hK _ _ (Up.refl _) rfl
      · intro x w1 K hU hS hO hd hK
        have h0 : (x 2).v = _ := kval (hd 2 (by decide)).1 rfl
        refine Veil.mk ?_; simp only [kgoal, putsFrom, depsOf, pu0, pu1, pu2, pu3, Nat.zero_add, Nat.reduceAdd, Nat.reduceBEq, Bool.or_false, Bool.false_or, Bool.or_true, Bool.true_or, Bool.false_eq_true, ↓reduceIte, Act.put, List.setIfInBounds_toArray, List.set_cons_zero, List.set_cons_succ]
        go_simp
        refine (answer_any _ br 0 fr _ ⟨_, rfl, ((OR.up (up_drew _)).since hS ⟨trivial, trivial, trivial, trivial, trivial, ⟨_, _, T4, by decide⟩, ⟨_, _, T5, by decide⟩, trivial, trivial⟩).sl⟩).mono ?_
        rintro e w2 ⟨a2, rfl, h2, u2⟩
        exact hK _ _ u2 (h2 _ rfl)
      · intro x w1 K hU hS hO hd hK
        refine Veil.mk ?_; simp only [kgoal, putsFrom, depsOf, pu0, pu1, pu2, pu3, Nat.zero_add, Nat.reduceAdd, Nat.reduceBEq, Bool.or_false, Bool.false_or, Bool.or_true, Bool.true_or, Bool.false_eq_true, ↓reduceIte, Act.put, List.setIfInBounds_toArray, List.set_cons_zero, List.set_cons_succ]
        go_simp
        exact hK _ _ (Up.refl _) rfl
      · intro x w1 K hU hS hO hd hK
        have h0 : (x 1).v = _ := kval (hd 1 (by decide)).1 rfl
        have t := (hO 5 _ _ rfl rfl (.inl rfl)).trans T4
        obtain ⟨d0, d1, f0, f1, -⟩ := cells2 t
        refine Veil.mk ?_; simp only [kgoal, putsFrom, depsOf, pu0, pu1, pu2, pu3, Nat.zero_add, Nat.reduceAdd, Nat.reduceBEq, Bool.or_false, Bool.false_or, Bool.or_true, Bool.true_or, Bool.false_eq_true, ↓reduceIte, Act.put, List.setIfInBounds_toArray, List.set_cons_zero, List.set_cons_succ]
        go_simp
        exact hK _ _ (sto_two t _ _).1 ⟨_, rfl, h0, (sto_two t _ _).2⟩
      · intro x w1 K hU hS hO hd hK
        have h0 : (x 3).v = _ := kval (hd 3 (by decide)).1 rfl
        have t := (hO 6 _ _ rfl rfl (.inl rfl)).trans T5
        obtain ⟨d0, d1, f0, f1, -⟩ := cells2 t
        refine Veil.mk ?_; simp only [kgoal, putsFrom, depsOf, pu0, pu1, pu2, pu3, Nat.zero_add, Nat.reduceAdd, Nat.reduceBEq, Bool.or_false, Bool.false_or, Bool.or_true, Bool.true_or, Bool.false_eq_true, ↓reduceIte, Act.put, List.setIfInBounds_toArray, List.set_cons_zero, List.set_cons_succ]
        go_simp
        exact hK _ _ (sto_two t _ _).1 ⟨_, rfl, h0, (sto_two t _ _).2⟩
      · intro x w1 K hU hS hO hd hK
        have h0 : (x 4).v = _ := kval (hd 4 (by decide)).1 rfl
        refine Veil.mk ?_; simp only [kgoal, putsFrom, depsOf, pu0, pu1, pu2, pu3, Nat.zero_add, Nat.reduceAdd, Nat.reduceBEq, Bool.or_false, Bool.false_or, Bool.or_true, Bool.true_or, Bool.false_eq_true, ↓reduceIte, Act.put, List.setIfInBounds_toArray, List.set_cons_zero, List.set_cons_succ]
        go_simp
        exact hK _ _ (Up.refl _) (by show [(x 4).v] = _; rw [h0]; rfl)
      · intro x w1 hU hS hR hlo hdis
        have h1 : (x 1).v = _ := kval (hR 1 (by decide)) rfl
        have h3 : (x 3).v = _ := kval (hR 3 (by decide)) rfl
        have h4 : (x 4).v = _ := kval (hR 4 (by decide)) rfl
        have h7 : [(x 4).v] = [(x 7).v] := kval (hR 7 (by decide)) rfl
        obtain ⟨cs5, -, q5, t5⟩ := kold (hR 5 (by decide)) rfl
        obtain ⟨cs6, -, q6, t6⟩ := kold (hR 6 (by decide)) rfl
        rw [h1] at q5
        cases q5
        rw [h3] at q6
        cases q6
        have e7 : (x 7).v = .bool (ok) := by rw [← h4]; exact (List.cons.inj h7).1.symm
        have OQ' := (OQ.up (up_drew _)).since hS ⟨trivial, trivial, trivial, trivial, trivial, ⟨_, _, T4, by decide⟩, ⟨_, _, T5, by decide⟩, trivial, trivial⟩
        have OR' := (OR.up (up_drew _)).since hS ⟨trivial, trivial, trivial, trivial, trivial, ⟨_, _, T4, by decide⟩, ⟨_, _, T5, by decide⟩, trivial, trivial⟩
        obtain ⟨d0, d1, -⟩ := cells2 t5
        obtain ⟨d2, d3, -⟩ := cells2 t6
        refine Veil.mk ?_; simp only [kgoal, putsFrom, depsOf, pu0, pu1, pu2, pu3, Nat.zero_add, Nat.reduceAdd, Nat.reduceBEq, Bool.or_false, Bool.false_or, Bool.or_true, Bool.true_or, Bool.false_eq_true, ↓reduceIte, Act.put, List.setIfInBounds_toArray, List.set_cons_zero, List.set_cons_succ]
        rw [e7]
        clear hR hlo hdis h7 hS n84 n85 n94 n95 T4 T5 T8 T9 OQ OR
        go_wp2_with fail
        refine bodyPost_ret (by simp [results, Tryd.results36, go_sem, d0, d1, d2, d3]; rfl) rfl ?_
        exact ⟨_, _, bq, br, nq, 0, fq, fr, rfl, ⟨_, rfl, OQ'⟩, ⟨_, rfl, OR'⟩, hU, cQ, cR, lQ, lR, sQ, sR⟩

    · obtain ⟨sq, sr, cQ, cR, lq, lr⟩ := unhide HQ
      have hy : Y ≠ 0 := by
        intro h0
        unfold rz at sr
        rw [if_pos h0] at sr
        have := num_pos cR.1 hnr
        cases br <;> simp [sgn] at sr <;> omega
      have sr' : sgn br (num 4294967296 fr nr) = Int.tmod X Y := by rw [sr]; unfold rz; rw [if_neg hy]
      have hrp := num_pos cR.1 hnr
      have hb1 : sgn b1 (num 4294967296 h m1) = Y := (unhide H1).2.2.trans (unhide HXY).2
      have hyp : b1 = true → Y < 0 := fun e => by
        have := num_pos (unhide H1).2.1.1 ((unhide H1).2.1.2 e)
        rw [← hb1, e]
        simp only [sgn]
        simp
        omega
      have hyn : b1 = false → 0 < Y := fun e => by
        have : 0 ≤ Y := by
          rw [← hb1, e]
          simp only [sgn]
          simp
        omega
      have HM := hide (And.intro sq (And.intro sr' (And.intro hrp (And.intro hy (And.intro hyp hyn)))))
      have HC := hide (And.intro cQ (And.intro cR (And.intro lq lr)))
      clear sq sr sr' hrp hb1 hyp hyn hy cQ cR lq lr HQ
      by_cases hbb : br = b1
      · have hbn : (br != b1) = false := by rw [hbb]; cases b1 <;> rfl
        have HF := hide (show Int.fdiv X Y = Int.tdiv X Y ∧ Int.fmod X Y = Int.tmod X Y from by
          obtain ⟨-, sr', hrp, hy, hyp, hyn⟩ := unhide HM
          refine floor_same hy ?_
          rw [← sr', hbb]
          cases b1
          · exact .inl ⟨hyn rfl, by simp only [sgn]; simp⟩
          · exact .inr ⟨hyp rfl, by simp only [sgn]; simp⟩)
        subst hbb
        go_wp2_with (go_at_call 65; refine (isZero_no _ _ _ _ hnr).mono ?_; rintro e w3 ⟨rfl, rfl⟩)
        obtain ⟨T4, T5, T7, T8, T9⟩ := unhide HT
        obtain ⟨OQ, OR⟩ := unhide HO
        have UW := unhide HU
        obtain ⟨cQ, cR, lq, lr⟩ := unhide HC
        obtain ⟨sq, sr, -, hy, -⟩ := unhide HM
        have sQ := sq.trans (unhide HF).1.symm
        have sR : sgn br (num 4294967296 fr nr) = (if Y = 0 then 0 else Int.fmod X Y) := by rw [if_neg hy]; exact sr.trans (unhide HF).2.symm
        have lQ : nq ≤ M + 2 := by omega
        have lR : nr ≤ M + 2 := by omega
        clear HT HO HU HC HM HF sq sr lq lr hy
        have n84 : g8 ≠ w.heap.size + 1 + 1 := by omega
        have n85 : g8 ≠ w.heap.size + 1 + 1 + 1 := by omega
        have n94 : g9 ≠ w.heap.size + 1 + 1 := by omega
        have n95 : g9 ≠ w.heap.size + 1 + 1 + 1 := by omega
        refine wp_region_knd (by kernel_rfl) w UW [[], [0], [], [2], [], [1, 0], [3, 2], [4]] [.val [] (fun _ g _ => g.v = .agg #[Value.slice aoq nq capq, .bool bq]), .val [] (fun _ g _ => g.v = .agg #[.bool bq, .slice aoq nq capq]), .val [] (fun _ g _ => g.v = .agg #[Value.slice aor nr capr, .bool br]), .val [] (fun _ g _ => g.v = .agg #[.bool br, .slice aor nr capr]), .val [] (fun _ g _ => g.v = .bool (ok)), .old (w.heap.size + 1 + 1) 1 26 2, .old (w.heap.size + 1 + 1 + 1) 3 26 2, .val [4] (fun _ g vs => vs = [g.v])] (by kernel_rfl) (by kernel_rfl) rfl ⟨trivial, trivial, trivial, trivial, trivial, ⟨by omega, (Array.getElem?_eq_some_iff.1 T4).1, by simp [oldG]⟩, ⟨by omega, (Array.getElem?_eq_some_iff.1 T5).1, by simp [oldG]⟩, trivial, trivial⟩ ⟨fun _ _ _ _ _ h => h, fun _ _ _ _ _ h => h, fun _ _ _ _ _ h => h, fun _ _ _ _ _ h => h, fun _ _ _ _ _ h => h, trivial, trivial, fun _ _ _ _ _ h => h, trivial⟩ ⟨?_, ?_, ?_, ?_, ?_, ?_, ?_, ?_, trivial⟩ ?_
        · intro x w1 K hU hS hO hd hK
          obtain ⟨c0, c1, -⟩ := cells2 (hS.at T8 ⟨trivial, trivial, trivial, trivial, trivial, n84, n85, trivial, trivial⟩)
          refine Veil.mk ?_; simp only [kgoal, putsFrom, depsOf, pu0, pu1, pu2, pu3, Nat.zero_add, Nat.reduceAdd, Nat.reduceBEq, Bool.or_false, Bool.false_or, Bool.or_true, Bool.true_or, Bool.false_eq_true, ↓reduceIte, Act.put, List.setIfInBounds_toArray, List.set_cons_zero, List.set_cons_succ]
          go_simp
          exact hK _ _ (Up.refl _) rfl
        · intro x w1 K hU hS hO hd hK
          have h0 : (x 0).v = _ := kval (hd 0 (by decide)).1 rfl
          refine Veil.mk ?_; simp only [kgoal, putsFrom, depsOf, pu0, pu1, pu2, pu3, Nat.zero_add, Nat.reduceAdd, Nat.reduceBEq, Bool.or_false, Bool.false_or, Bool.or_true, Bool.true_or, Bool.false_eq_true, ↓reduceIte, Act.put, List.setIfInBounds_toArray, List.set_cons_zero, List.set_cons_succ]
          go_simp
          refine (answer_any _ bq nq fq _ ⟨_, rfl, ((OQ.up (up_drew _)).since hS ⟨trivial, trivial, trivial, trivial, trivial, ⟨_, _, T4, by decide⟩, ⟨_, _, T5, by decide⟩, trivial, trivial⟩).sl⟩).mono ?_
          rintro e w2 ⟨a2, rfl, h2, u2⟩
          exact hK _ _ u2 (h2 _ rfl)
        · intro x w1 K hU hS hO hd hK
          obtain ⟨c0, c1, -⟩ := cells2 (hS.at T9 ⟨trivial, trivial, trivial, trivial, trivial, n94, n95, trivial, trivial⟩)
          refine Veil.mk ?_; simp only [kgoal, putsFrom, depsOf, pu0, pu1, pu2, pu3, Nat.zero_add, Nat.reduceAdd, Nat.reduceBEq, Bool.or_false, Bool.false_or, Bool.or_true, Bool.true_or, Bool.false_eq_true, ↓reduceIte, Act.put, List.setIfInBounds_toArray, List.set_cons_zero, List.set_cons_succ]
          go_simp
          exact hK _ _ (Up.refl _) rfl
        · intro x w1 K hU hS hO hd hK
          have h0 : (x 2).v = _ := kval (hd 2 (by decide)).1 rfl
          refine Veil.mk ?_; simp only [kgoal, putsFrom, depsOf, pu0, pu1, pu2, pu3, Nat.zero_add, Nat.reduceAdd, Nat.reduceBEq, Bool.or_false, Bool.false_or, Bool.or_true, Bool.true_or, Bool.false_eq_true, ↓reduceIte, Act.put, List.setIfInBounds_toArray, List.set_cons_zero, List.set_cons_succ]
          go_simp
          refine (answer_any _ br nr fr _ ⟨_, rfl, ((OR.up (up_drew _)).since hS ⟨trivial, trivial, trivial, trivial, trivial, ⟨_, _, T4, by decide⟩, ⟨_, _, T5, by decide⟩, trivial, trivial⟩).sl⟩).mono ?_
          rintro e w2 ⟨a2, rfl, h2, u2⟩
          exact hK _ _ u2 (h2 _ rfl)
        · intro x w1 K hU hS hO hd hK
          refine Veil.mk ?_; simp only [kgoal, putsFrom, depsOf, pu0, pu1, pu2, pu3, Nat.zero_add, Nat.reduceAdd, Nat.reduceBEq, Bool.or_false, Bool.false_or, Bool.or_true, Bool.true_or, Bool.false_eq_true, ↓reduceIte, Act.put, List.setIfInBounds_toArray, List.set_cons_zero, List.set_cons_succ]
          go_simp
          exact hK _ _ (Up.refl _) rfl
        · intro x w1 K hU hS hO hd hK
          have h0 : (x 1).v = _ := kval (hd 1 (by decide)).1 rfl
          have t := (hO 5 _ _ rfl rfl (.inl rfl)).trans T4
          obtain ⟨d0, d1, f0, f1, -⟩ := cells2 t
          refine Veil.mk ?_; simp only [kgoal, putsFrom, depsOf, pu0, pu1, pu2, pu3, Nat.zero_add, Nat.reduceAdd, Nat.reduceBEq, Bool.or_false, Bool.false_or, Bool.or_true, Bool.true_or, Bool.false_eq_true, ↓reduceIte, Act.put, List.setIfInBounds_toArray, List.set_cons_zero, List.set_cons_succ]
          go_simp
          exact hK _ _ (sto_two t _ _).1 ⟨_, rfl, h0, (sto_two t _ _).2⟩
        · intro x w1 K hU hS hO hd hK
          have h0 : (x 3).v = _ := kval (hd 3 (by decide)).1 rfl
          have t := (hO 6 _ _ rfl rfl (.inl rfl)).trans T5
          obtain ⟨d0, d1, f0, f1, -⟩ := cells2 t
          refine Veil.mk ?_; simp only [kgoal, putsFrom, depsOf, pu0, pu1, pu2, pu3, Nat.zero_add, Nat.reduceAdd, Nat.reduceBEq, Bool.or_false, Bool.false_or, Bool.or_true, Bool.true_or, Bool.false_eq_true, ↓reduceIte, Act.put, List.setIfInBounds_toArray, List.set_cons_zero, List.set_cons_succ]
          go_simp
          exact hK _ _ (sto_two t _ _).1 ⟨_, rfl, h0, (sto_two t _ _).2⟩
        · intro x w1 K hU hS hO hd hK
          have h0 : (x 4).v = _ := kval (hd 4 (by decide)).1 rfl
          refine Veil.mk ?_; simp only [kgoal, putsFrom, depsOf, pu0, pu1, pu2, pu3, Nat.zero_add, Nat.reduceAdd, Nat.reduceBEq, Bool.or_false, Bool.false_or, Bool.or_true, Bool.true_or, Bool.false_eq_true, ↓reduceIte, Act.put, List.setIfInBounds_toArray, List.set_cons_zero, List.set_cons_succ]
          go_simp
          exact hK _ _ (Up.refl _) (by show [(x 4).v] = _; rw [h0]; rfl)
        · intro x w1 hU hS hR hlo hdis
          have h1 : (x 1).v = _ := kval (hR 1 (by decide)) rfl
          have h3 : (x 3).v = _ := kval (hR 3 (by decide)) rfl
          have h4 : (x 4).v = _ := kval (hR 4 (by decide)) rfl
          have h7 : [(x 4).v] = [(x 7).v] := kval (hR 7 (by decide)) rfl
          obtain ⟨cs5, -, q5, t5⟩ := kold (hR 5 (by decide)) rfl
          obtain ⟨cs6, -, q6, t6⟩ := kold (hR 6 (by decide)) rfl
          rw [h1] at q5
          cases q5
          rw [h3] at q6
          cases q6
          have e7 : (x 7).v = .bool (ok) := by rw [← h4]; exact (List.cons.inj h7).1.symm
          have OQ' := (OQ.up (up_drew _)).since hS ⟨trivial, trivial, trivial, trivial, trivial, ⟨_, _, T4, by decide⟩, ⟨_, _, T5, by decide⟩, trivial, trivial⟩
          have OR' := (OR.up (up_drew _)).since hS ⟨trivial, trivial, trivial, trivial, trivial, ⟨_, _, T4, by decide⟩, ⟨_, _, T5, by decide⟩, trivial, trivial⟩
          obtain ⟨d0, d1, -⟩ := cells2 t5
          obtain ⟨d2, d3, -⟩ := cells2 t6
          refine Veil.mk ?_; simp only [kgoal, putsFrom, depsOf, pu0, pu1, pu2, pu3, Nat.zero_add, Nat.reduceAdd, Nat.reduceBEq, Bool.or_false, Bool.false_or, Bool.or_true, Bool.true_or, Bool.false_eq_true, ↓reduceIte, Act.put, List.setIfInBounds_toArray, List.set_cons_zero, List.set_cons_succ]
          rw [e7]
          clear hR hlo hdis h7 hS n84 n85 n94 n95 T4 T5 T8 T9 OQ OR
          go_wp2_with fail
          refine bodyPost_ret (by simp [results, Tryd.results36, go_sem, d0, d1, d2, d3]; rfl) rfl ?_
          exact ⟨_, _, bq, br, nq, nr, fq, fr, rfl, ⟨_, rfl, OQ'⟩, ⟨_, rfl, OR'⟩, hU, cQ, cR, lQ, lR, sQ, sR⟩

      · have hbn : (br == b1) = false := by cases br <;> cases b1 <;> simp at hbb ⊢
        have HF := hide (show Int.fdiv X Y = Int.tdiv X Y - 1 ∧ Int.fmod X Y = Int.tmod X Y + Y from by
          obtain ⟨-, sr', hrp, hy, hyp, hyn⟩ := unhide HM
          refine floor_turn hy ?_
          rw [← sr']
          cases b1 <;> cases br <;> simp at hbb
          · exact .inl ⟨hyn rfl, by simp only [sgn]; simp; omega⟩
          · exact .inr ⟨hyp rfl, by simp only [sgn]; simp; omega⟩)
        go_wp2_with (go_at_call 65; refine (isZero_no _ _ _ _ hnr).mono ?_; rintro e w3 ⟨rfl, rfl⟩)
        rename_i w3
        obtain ⟨T4, T5, T7, T8, T9⟩ := unhide HT
        obtain ⟨OQ, OR⟩ := unhide HO
        have UW := unhide HU
        obtain ⟨cQ, cR, lq, lr⟩ := unhide HC
        have n84 : w.heap.size + 1 + 1 ≠ g8 := by omega
        have n85 : w.heap.size + 1 + 1 + 1 ≠ g8 := by omega
        have n87 : w1.heap.size ≠ g8 := by omega
        have n89 : g9 ≠ g8 := fun e => hne89 e.symm
        refine wp_region_knd (by kernel_rfl) w UW [[], [], [1], [0, 2, 1], [3, 0, 2, 1], [4, 0]] [.val [] (fun _ g _ => g.v = .agg #[Value.slice aoq nq capq, .bool bq]), .val [] (fun w g _ => OwnIn w g.lo g.hi g.v 1 (fun _ => 1)),
          .val [1] (fun _ g vs => ∃ ao m c b, vs = [Value.slice ao 1 c] ∧ g.v = .agg #[.slice ao m c, .bool b] ∧ m ≤ 1 ∧ CanZ b (fun _ => 1) m ∧ sgn b (num 4294967296 (fun _ => 1) m) = -1),
          .val [0, 2] (fun w g vs => g.v = .slice (some ⟨g.lo, 0, none⟩) 2 2 ∧ g.lo < g.hi ∧ ∃ v' b', vs = [Value.agg #[Value.slice aoq nq capq, .bool bq], .agg #[v', .bool b']] ∧ w.heap[g.lo]? = some (.cells #[Value.slice aoq nq capq, .bool bq, v', .bool b'] 51 (0, 0))),
          .val [] (fun w g _ => ∃ v b n' f', g.v = .agg #[v, .bool b] ∧ OwnIn w g.lo g.hi v n' f' ∧ CanZ b f' n' ∧ n' ≤ M + 2 ∧ sgn b (num 4294967296 f' n') = sgn bq (num 4294967296 fq nq) - 1), .old g8 4 51 2]
          (by kernel_rfl) (by kernel_rfl) rfl ⟨trivial, trivial, trivial, trivial, trivial, ⟨by omega, (Array.getElem?_eq_some_iff.1 T8).1, by simp⟩, trivial⟩
          ⟨fun _ _ _ _ _ h => h, fun _ _ _ _ hb h => h.keep hb, fun _ _ _ _ _ h => h, (fun _ _ _ _ hb h => by obtain ⟨h1, h2, v', b', h3, h4⟩ := h; exact ⟨h1, h2, v', b', h3, (hb _ (Nat.le_refl _) h2).trans h4⟩), (fun _ _ _ _ hb h => by obtain ⟨v, b, n', f', h1, h2, h3⟩ := h; exact ⟨v, b, n', f', h1, h2.keep hb, h3⟩), trivial, trivial⟩ ⟨?_, ?_, ?_, ?_, ?_, ?_, trivial⟩ ?_
        · intro x w4 K hU hS hO hd hK
          obtain ⟨c0, c1, -⟩ := cells2 ((hO 5 _ _ rfl rfl (.inr (by decide))).trans T8)
          refine Veil.mk ?_; simp only [kgoal, putsFrom, depsOf, pu0, pu1, pu2, pu3, Nat.zero_add, Nat.reduceAdd, Nat.reduceBEq, Bool.or_false, Bool.false_or, Bool.or_true, Bool.true_or, Bool.false_eq_true, ↓reduceIte, Act.put, List.setIfInBounds_toArray, List.set_cons_zero, List.set_cons_succ]
          go_simp
          exact hK _ _ (Up.refl _) rfl
        · intro x w4 K hU hS hO hd hK
          refine Veil.mk ?_; simp only [kgoal, putsFrom, depsOf, pu0, pu1, pu2, pu3, Nat.zero_add, Nat.reduceAdd, Nat.reduceBEq, Bool.or_false, Bool.false_or, Bool.or_true, Bool.true_or, Bool.false_eq_true, ↓reduceIte, Act.put, List.setIfInBounds_toArray, List.set_cons_zero, List.set_cons_succ]
          go_simp
          exact hK _ _ (up_alloc _ _) (OwnIn.of (litOne w4 1 1 _ rfl rfl))
        · intro x w4 K hU hS hO hd hK
          have h1 : OwnIn w4 (x 1).lo (x 1).hi (x 1).v 1 (fun _ => 1) := kval (hd 1 (by decide)).1 rfl
          obtain ⟨ao1', cap1', e1, -⟩ := id h1.sl
          rw [e1] at h1
          obtain ⟨r1, r2, r3⟩ := h1.sl.rd
          refine Veil.mk ?_; simp only [kgoal, putsFrom, depsOf, pu0, pu1, pu2, pu3, Nat.zero_add, Nat.reduceAdd, Nat.reduceBEq, Bool.or_false, Bool.false_or, Bool.or_true, Bool.true_or, Bool.false_eq_true, ↓reduceIte, Act.put, List.setIfInBounds_toArray, List.set_cons_zero, List.set_cons_succ]
          go_simp
          refine (numberOf_any _ 1 _ (fun _ => 1) true _ r1 r2 r3).mono ?_
          rintro e w5 ⟨m5, hm5, rfl, u5, z5, t5⟩
          have : m5 = 1 := by
            rcases Nat.lt_or_ge m5 1 with hl | hl
            · exact absurd (z5 0 (by omega) (by omega)) (by decide)
            · omega
          subst this
          exact hK _ _ u5 ⟨_, 1, _, true, by show [(x 1).v] = _; rw [e1], rfl, Nat.le_refl _, ⟨⟨fun i hi => by show (1 : Nat) < _; omega, .inr (by decide)⟩, fun _ => by decide⟩, by simp [sgn, num]⟩
        · intro x w4 K hU hS hO hd hK
          have h0 : (x 0).v = _ := kval (hd 0 (by decide)).1 rfl
          obtain ⟨ao2, m2, c2, b2, h2, h2', h2''⟩ := kval (hd 2 (by decide)).1 rfl
          refine Veil.mk ?_; simp only [kgoal, putsFrom, depsOf, pu0, pu1, pu2, pu3, Nat.zero_add, Nat.reduceAdd, Nat.reduceBEq, Bool.or_false, Bool.false_or, Bool.or_true, Bool.true_or, Bool.false_eq_true, ↓reduceIte, Act.put, List.setIfInBounds_toArray, List.set_cons_zero, List.set_cons_succ]
          go_simp
          exact hK _ _ (up_alloc _ _) ⟨rfl, by show w4.heap.size < (w4.alloc _).heap.size; simp, _, _, by show [(x 0).v, (x 2).v] = _; rw [h0, h2'], heap_alloc_new w4 _⟩
        · intro x w4 K hU hS hO hd hK
          have h1 : OwnIn w4 (x 1).lo (x 1).hi (x 1).v 1 (fun _ => 1) := kval (hd 1 (by decide)).1 rfl
          have h2 : ∃ ao m c b, [(x 1).v] = [Value.slice ao 1 c] ∧ (x 2).v = .agg #[.slice ao m c, .bool b] ∧ m ≤ 1 ∧ CanZ b (fun _ => 1) m ∧ sgn b (num 4294967296 (fun _ => 1) m) = -1 := kval (hd 2 (by decide)).1 rfl
          obtain ⟨ao2, m2, c2, b2, h2, h2', l2, cz2, s2⟩ := h2
          have h3 : (x 3).v = .slice (some ⟨(x 3).lo, 0, none⟩) 2 2 ∧ (x 3).lo < (x 3).hi ∧ ∃ v' b', [(x 0).v, (x 2).v] = [Value.agg #[Value.slice aoq nq capq, .bool bq], .agg #[v', .bool b']] ∧ w4.heap[(x 3).lo]? = some (.cells #[Value.slice aoq nq capq, .bool bq, v', .bool b'] 51 (0, 0)) := kval (hd 3 (by decide)).1 rfl
          obtain ⟨e3, -, v', b', e3', h3⟩ := h3
          have e2 := (List.cons.inj (List.cons.inj e3').2).1
          rw [h2'] at e2
          cases e2
          rw [(List.cons.inj h2).1] at h1
          have OQ' := (OQ.up (up_drew _)).since hS ⟨trivial, trivial, trivial, trivial, trivial, ⟨_, _, T8, by decide⟩, trivial⟩
          clear hd
          refine Veil.mk ?_; simp only [kgoal, putsFrom, depsOf, pu0, pu1, pu2, pu3, Nat.zero_add, Nat.reduceAdd, Nat.reduceBEq, Bool.or_false, Bool.false_or, Bool.or_true, Bool.true_or, Bool.false_eq_true, ↓reduceIte, Act.put, List.setIfInBounds_toArray, List.set_cons_zero, List.set_cons_succ]
          go_simp
          refine (sum2_blk (x 3).lo _ _ bq b2 nq m2 (M + 1) fq (fun _ => 1) 51 _ h3 OQ'.sl (h1.1.cutAt l2).sl cQ.1.1 cz2.1.1 (by omega) (by omega) (by omega)).mono ?_
          rintro e w5 ⟨v5, b5, n5, f5, rfl, o5, u5, c5, l5, s5⟩
          exact hK _ _ u5 ⟨v5, b5, n5, f5, rfl, OwnIn.of o5, c5, l5, by rw [s5, s2]; omega⟩
        · intro x w4 K hU hS hO hd hK
          have h4 : ∃ v b n' f', (x 4).v = .agg #[v, .bool b] ∧ OwnIn w4 (x 4).lo (x 4).hi v n' f' ∧ CanZ b f' n' ∧ n' ≤ M + 2 ∧ sgn b (num 4294967296 f' n') = sgn bq (num 4294967296 fq nq) - 1 := kval (hd 4 (by decide)).1 rfl
          obtain ⟨v4, b4, n4, f4, e4, o4, -⟩ := h4
          obtain ⟨ao4, cap4, rfl, -⟩ := id o4.sl
          have tt := (hO 5 _ _ rfl rfl (.inl rfl)).trans T8
          obtain ⟨d0, d1, f0, f1, -⟩ := cells2 tt
          clear hd o4
          refine Veil.mk ?_; simp only [kgoal, putsFrom, depsOf, pu0, pu1, pu2, pu3, Nat.zero_add, Nat.reduceAdd, Nat.reduceBEq, Bool.or_false, Bool.false_or, Bool.or_true, Bool.true_or, Bool.false_eq_true, ↓reduceIte, Act.put, List.setIfInBounds_toArray, List.set_cons_zero, List.set_cons_succ]
          go_simp
          exact hK _ _ (sto_two tt _ _).1 ⟨_, rfl, e4, (sto_two tt _ _).2⟩
        · intro x w4 hU hS hR hlo hdis
          have h4 : ∃ v b n' f', (x 4).v = .agg #[v, .bool b] ∧ OwnIn w4 (x 4).lo (x 4).hi v n' f' ∧ CanZ b f' n' ∧ n' ≤ M + 2 ∧ sgn b (num 4294967296 f' n') = sgn bq (num 4294967296 fq nq) - 1 := kval (hR 4 (by decide)) rfl
          obtain ⟨v4, b4, n4, f4, e4, o4, c4, l4, s4⟩ := h4
          obtain ⟨cs8, -, q8, T8'⟩ := kold (hR 5 (by decide)) rfl
          rw [e4] at q8
          cases q8
          have T4' := hS.at (b := w.heap.size + 1 + 1) T4 ⟨trivial, trivial, trivial, trivial, trivial, n84, trivial⟩
          have T5' := hS.at (b := w.heap.size + 1 + 1 + 1) T5 ⟨trivial, trivial, trivial, trivial, trivial, n85, trivial⟩
          have T7' := hS.at (b := w1.heap.size) T7 ⟨trivial, trivial, trivial, trivial, trivial, n87, trivial⟩
          have T9' := hS.at (b := g9) T9 ⟨trivial, trivial, trivial, trivial, trivial, n89, trivial⟩
          have OR' := (OR.up (up_drew _)).since hS ⟨trivial, trivial, trivial, trivial, trivial, ⟨_, _, T8, by decide⟩, trivial⟩
          have z4 := hlo 4 (by decide)
          have zz := Below.size UW
          have OQ4 : Own .u32 64 w4 w.heap.size v4 n4 f4 := o4.1.mono (by omega)
          obtain ⟨d90, d91, f90, f91, lt9⟩ := cells2 T9'
          obtain ⟨d70, d71, -⟩ := cells2 T7'
          refine Veil.mk ?_; simp only [kgoal, putsFrom, depsOf, pu0, pu1, pu2, pu3, Nat.zero_add, Nat.reduceAdd, Nat.reduceBEq, Bool.or_false, Bool.false_or, Bool.or_true, Bool.true_or, Bool.false_eq_true, ↓reduceIte, Act.put, List.setIfInBounds_toArray, List.set_cons_zero, List.set_cons_succ]
          generalize (x 0).v = y0 at *
          generalize (x 1).v = y1 at *
          generalize (x 2).v = y2 at *
          generalize (x 3).v = y3 at *
          generalize (x 4).v = y4 at *
          have HS := hide (And.intro s4 (And.intro c4 (And.intro l4 (And.intro T8' (And.intro T4' (And.intro T5' (And.intro T9' (And.intro OQ4 (And.intro OR' hU)))))))))
          have h8lt : g8 < w4.heap.size := (Array.getElem?_eq_some_iff.1 T8').1
          clear hR hlo hdis o4 e4 s4 c4 l4 T8' T4' T5' T7' T9' OR' OQ4 z4 zz hS T4 T5 T7 T8 T9 OQ OR UW HT HO HU hU
          go_wp2_with fail
          refine (sum2_any _ _ _ br b1 nr m1 M fr h 51 _ rfl (unhide HS).2.2.2.2.2.2.2.2.1.sl ((unhide H1).1.up (unhide HS).2.2.2.2.2.2.2.2.2) cR.1.1 (unhide H1).2.1.1.1 lr (by omega) (by omega)).mono ?_
          rintro e w6 ⟨a6, b6, n6, f6, rfl, o6, u6, c6, l6, s6⟩
          obtain ⟨v6, rfl, o6⟩ := o6
          obtain ⟨ao6, cap6, rfl, -⟩ := id o6.sl
          obtain ⟨s4, c4, l4, T8', T4', T5', T9', OQ4, OR', hU⟩ := unhide HS
          have T9s := u6.blk T9'
          obtain ⟨k90, k91, j90, j91, -⟩ := cells2 T9s
          obtain ⟨tn, T9⟩ := sto_two T9s (.slice ao6 n6 cap6) (.bool b6)
          have T8 := (tn.block g8 (fun e => hne89 e)).trans (u6.blk T8')
          have T4 := (tn.block (w.heap.size + 1 + 1) (by omega)).trans (u6.blk T4')
          have T5 := (tn.block (w.heap.size + 1 + 1 + 1) (by omega)).trans (u6.blk T5')
          have hw4 := Below.size hU
          have OQ := (OQ4.up u6).turn tn T9s (by decide)
          have OR := (o6.turn tn T9s (by decide)).mono hw4
          have UW := tn.up (hU.tr u6) (by omega)
          obtain ⟨ao4, cap4, rfl, -⟩ := id OQ.sl
          have sQ : sgn b4 (num 4294967296 f4 n4) = Int.fdiv X Y := by rw [s4, (unhide HM).1, (unhide HF).1]
          have sR : sgn b6 (num 4294967296 f6 n6) = (if Y = 0 then 0 else Int.fmod X Y) := by rw [if_neg (unhide HM).2.2.2.1, s6, (unhide HM).2.1, (unhide HF).2, (unhide H1).2.2, (unhide HXY).2]
          have lQ : n4 ≤ M + 2 := by omega
          have lR : n6 ≤ M + 2 := by omega
          clear n84 n85 n87 n89 T8' T4' T5' T9' OQ4 OR' HS s4 s6 tn u6 o6 hU hw4
          go_wp2_with fail
          have n84 : g8 ≠ w.heap.size + 1 + 1 := by omega
          have n85 : g8 ≠ w.heap.size + 1 + 1 + 1 := by omega
          have n94 : g9 ≠ w.heap.size + 1 + 1 := by omega
          have n95 : g9 ≠ w.heap.size + 1 + 1 + 1 := by omega
          refine wp_region_knd (by kernel_rfl) w UW [[], [0], [], [2], [], [1, 0], [3, 2], [4]] [.val [] (fun _ g _ => g.v = .agg #[Value.slice ao4 n4 cap4, .bool b4]), .val [] (fun _ g _ => g.v = .agg #[.bool b4, .slice ao4 n4 cap4]), .val [] (fun _ g _ => g.v = .agg #[Value.slice ao6 n6 cap6, .bool b6]), .val [] (fun _ g _ => g.v = .agg #[.bool b6, .slice ao6 n6 cap6]), .val [] (fun _ g _ => g.v = .bool (ok)), .old (w.heap.size + 1 + 1) 1 26 2, .old (w.heap.size + 1 + 1 + 1) 3 26 2, .val [4] (fun _ g vs => vs = [g.v])] (by kernel_rfl) (by kernel_rfl) rfl ⟨trivial, trivial, trivial, trivial, trivial, ⟨by omega, (Array.getElem?_eq_some_iff.1 T4).1, by simp [oldG]⟩, ⟨by omega, (Array.getElem?_eq_some_iff.1 T5).1, by simp [oldG]⟩, trivial, trivial⟩ ⟨fun _ _ _ _ _ h => h, fun _ _ _ _ _ h => h, fun _ _ _ _ _ h => h, fun _ _ _ _ _ h => h, fun _ _ _ _ _ h => h, trivial, trivial, fun _ _ _ _ _ h => h, trivial⟩ ⟨?_, ?_, ?_, ?_, ?_, ?_, ?_, ?_, trivial⟩ ?_
          · intro x w1 K hU hS hO hd hK
            obtain ⟨c0, c1, -⟩ := cells2 (hS.at T8 ⟨trivial, trivial, trivial, trivial, trivial, n84, n85, trivial, trivial⟩)
            refine Veil.mk ?_; simp only [kgoal, putsFrom, depsOf, pu0, pu1, pu2, pu3, Nat.zero_add, Nat.reduceAdd, Nat.reduceBEq, Bool.or_false, Bool.false_or, Bool.or_true, Bool.true_or, Bool.false_eq_true, ↓reduceIte, Act.put, List.setIfInBounds_toArray, List.set_cons_zero, List.set_cons_succ]
            go_simp
            exact hK _ _ (Up.refl _) rfl
          · intro x w1 K hU hS hO hd hK
            have h0 : (x 0).v = _ := kval (hd 0 (by decide)).1 rfl
            refine Veil.mk ?_; simp only [kgoal, putsFrom, depsOf, pu0, pu1, pu2, pu3, Nat.zero_add, Nat.reduceAdd, Nat.reduceBEq, Bool.or_false, Bool.false_or, Bool.or_true, Bool.true_or, Bool.false_eq_true, ↓reduceIte, Act.put, List.setIfInBounds_toArray, List.set_cons_zero, List.set_cons_succ]
            go_simp
            refine (answer_any _ b4 n4 f4 _ ⟨_, rfl, ((OQ.up (up_drew _)).since hS ⟨trivial, trivial, trivial, trivial, trivial, ⟨_, _, T4, by decide⟩, ⟨_, _, T5, by decide⟩, trivial, trivial⟩).sl⟩).mono ?_
            rintro e w2 ⟨a2, rfl, h2, u2⟩
            exact hK _ _ u2 (h2 _ rfl)
          · intro x w1 K hU hS hO hd hK
            obtain ⟨c0, c1, -⟩ := cells2 (hS.at T9 ⟨trivial, trivial, trivial, trivial, trivial, n94, n95, trivial, trivial⟩)
            refine Veil.mk ?_; simp only [kgoal, putsFrom, depsOf, pu0, pu1, pu2, pu3, Nat.zero_add, Nat.reduceAdd, Nat.reduceBEq, Bool.or_false, Bool.false_or, Bool.or_true, Bool.true_or, Bool.false_eq_true, ↓reduceIte, Act.put, List.setIfInBounds_toArray, List.set_cons_zero, List.set_cons_succ]
            go_simp
            exact hK _ _ (Up.refl _) rfl
          · intro x w1 K hU hS hO hd hK
            have h0 : (x 2).v = _ := kval (hd 2 (by decide)).1 rfl
            refine Veil.mk ?_; simp only [kgoal, putsFrom, depsOf, pu0, pu1, pu2, pu3, Nat.zero_add, Nat.reduceAdd, Nat.reduceBEq, Bool.or_false, Bool.false_or, Bool.or_true, Bool.true_or, Bool.false_eq_true, ↓reduceIte, Act.put, List.setIfInBounds_toArray, List.set_cons_zero, List.set_cons_succ]
            go_simp
            refine (answer_any _ b6 n6 f6 _ ⟨_, rfl, ((OR.up (up_drew _)).since hS ⟨trivial, trivial, trivial, trivial, trivial, ⟨_, _, T4, by decide⟩, ⟨_, _, T5, by decide⟩, trivial, trivial⟩).sl⟩).mono ?_
            rintro e w2 ⟨a2, rfl, h2, u2⟩
            exact hK _ _ u2 (h2 _ rfl)
          · intro x w1 K hU hS hO hd hK
            refine Veil.mk ?_; simp only [kgoal, putsFrom, depsOf, pu0, pu1, pu2, pu3, Nat.zero_add, Nat.reduceAdd, Nat.reduceBEq, Bool.or_false, Bool.false_or, Bool.or_true, Bool.true_or, Bool.false_eq_true, ↓reduceIte, Act.put, List.setIfInBounds_toArray, List.set_cons_zero, List.set_cons_succ]
            go_simp
            exact hK _ _ (Up.refl _) rfl
          · intro x w1 K hU hS hO hd hK
            have h0 : (x 1).v = _ := kval (hd 1 (by decide)).1 rfl
            have t := (hO 5 _ _ rfl rfl (.inl rfl)).trans T4
            obtain ⟨d0, d1, f0, f1, -⟩ := cells2 t
            refine Veil.mk ?_; simp only [kgoal, putsFrom, depsOf, pu0, pu1, pu2, pu3, Nat.zero_add, Nat.reduceAdd, Nat.reduceBEq, Bool.or_false, Bool.false_or, Bool.or_true, Bool.true_or, Bool.false_eq_true, ↓reduceIte, Act.put, List.setIfInBounds_toArray, List.set_cons_zero, List.set_cons_succ]
            go_simp
            exact hK _ _ (sto_two t _ _).1 ⟨_, rfl, h0, (sto_two t _ _).2⟩
          · intro x w1 K hU hS hO hd hK
            have h0 : (x 3).v = _ := kval (hd 3 (by decide)).1 rfl
            have t := (hO 6 _ _ rfl rfl (.inl rfl)).trans T5
            obtain ⟨d0, d1, f0, f1, -⟩ := cells2 t
            refine Veil.mk ?_; simp only [kgoal, putsFrom, depsOf, pu0, pu1, pu2, pu3, Nat.zero_add, Nat.reduceAdd, Nat.reduceBEq, Bool.or_false, Bool.false_or, Bool.or_true, Bool.true_or, Bool.false_eq_true, ↓reduceIte, Act.put, List.setIfInBounds_toArray, List.set_cons_zero, List.set_cons_succ]
            go_simp
            exact hK _ _ (sto_two t _ _).1 ⟨_, rfl, h0, (sto_two t _ _).2⟩
          · intro x w1 K hU hS hO hd hK
            have h0 : (x 4).v = _ := kval (hd 4 (by decide)).1 rfl
            refine Veil.mk ?_; simp only [kgoal, putsFrom, depsOf, pu0, pu1, pu2, pu3, Nat.zero_add, Nat.reduceAdd, Nat.reduceBEq, Bool.or_false, Bool.false_or, Bool.or_true, Bool.true_or, Bool.false_eq_true, ↓reduceIte, Act.put, List.setIfInBounds_toArray, List.set_cons_zero, List.set_cons_succ]
            go_simp
            exact hK _ _ (Up.refl _) (by show [(x 4).v] = _; rw [h0]; rfl)
          · intro x w1 hU hS hR hlo hdis
            have h1 : (x 1).v = _ := kval (hR 1 (by decide)) rfl
            have h3 : (x 3).v = _ := kval (hR 3 (by decide)) rfl
            have h4 : (x 4).v = _ := kval (hR 4 (by decide)) rfl
            have h7 : [(x 4).v] = [(x 7).v] := kval (hR 7 (by decide)) rfl
            obtain ⟨cs5, -, q5, t5⟩ := kold (hR 5 (by decide)) rfl
            obtain ⟨cs6, -, q6, t6⟩ := kold (hR 6 (by decide)) rfl
            rw [h1] at q5
            cases q5
            rw [h3] at q6
            cases q6
            have e7 : (x 7).v = .bool (ok) := by rw [← h4]; exact (List.cons.inj h7).1.symm
            have OQ' := (OQ.up (up_drew _)).since hS ⟨trivial, trivial, trivial, trivial, trivial, ⟨_, _, T4, by decide⟩, ⟨_, _, T5, by decide⟩, trivial, trivial⟩
            have OR' := (OR.up (up_drew _)).since hS ⟨trivial, trivial, trivial, trivial, trivial, ⟨_, _, T4, by decide⟩, ⟨_, _, T5, by decide⟩, trivial, trivial⟩
            obtain ⟨d0, d1, -⟩ := cells2 t5
            obtain ⟨d2, d3, -⟩ := cells2 t6
            refine Veil.mk ?_; simp only [kgoal, putsFrom, depsOf, pu0, pu1, pu2, pu3, Nat.zero_add, Nat.reduceAdd, Nat.reduceBEq, Bool.or_false, Bool.false_or, Bool.or_true, Bool.true_or, Bool.false_eq_true, ↓reduceIte, Act.put, List.setIfInBounds_toArray, List.set_cons_zero, List.set_cons_succ]
            rw [e7]
            clear hR hlo hdis h7 hS n84 n85 n94 n95 T4 T5 T8 T9 OQ OR
            go_wp2_with fail
            refine bodyPost_ret (by simp [results, Tryd.results36, go_sem, d0, d1, d2, d3]; rfl) rfl ?_
            exact ⟨_, _, b4, b6, n4, n6, f4, f6, rfl, ⟨_, rfl, OQ'⟩, ⟨_, rfl, OR'⟩, hU, c4, c6, lQ, lR, sQ, sR⟩

end Go.Proofs.YtjbocfhmfidjjaaDoor
