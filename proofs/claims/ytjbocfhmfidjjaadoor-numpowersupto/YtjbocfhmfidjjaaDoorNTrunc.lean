/-
  What is proved here: num.Truncate divides towards 0, and says so; by 0 it says false.
-/
import Derived.Test.YtjbocfhmfidjjaaDoorNFloor
namespace Go.Proofs.YtjbocfhmfidjjaaDoor
open Go Go.RowKit

/-- How num.Truncate ends. -/
def TruncEnd (X Y : Int) (ok : Bool) (M : Nat) (w : World) (e : Ending) (w' : World) : Prop := ∃ (aq ar : Value) (bq br : Bool) (nq nr : Nat) (fq fr : Nat → Nat), e = .returned (.tuple #[aq, ar, .bool ok]) ∧ OwnN w' w.heap.size aq bq nq fq ∧ OwnN w' w.heap.size ar br nr fr ∧ Up w w' ∧ CanZ bq fq nq ∧ CanZ br fr nr ∧ nq ≤ M + 1 ∧ nr ≤ M ∧
      sgn bq (num 4294967296 fq nq) = Int.tdiv X Y ∧ sgn br (num 4294967296 fr nr) = rz X Y

set_option linter.unusedSimpArgs false in
set_option maxRecDepth 4000 in
set_option maxHeartbeats 4000000 in
theorem trunc_any (a u : Value) (ba bu : Bool) (n m M : Nat) (f h : Nat → Nat) (X Y : Int) (w : World) (ha : Nm w a ba n f) (hu : Nm w u bu m h) (hf : ∀ i, i < n → f i < 4294967296) (hh : ∀ i, i < m → h i < 4294967296) (hn : n ≤ M) (hm : m ≤ M) (hM : 4 * (M + 1) ≤ 281474976710656)
    (hX : sgn ba (num 4294967296 f n) = X) (hY : sgn bu (num 4294967296 h m) = Y) :
    Calls Tryd.prog 34 #[a, u] w fun e w' => TruncEnd X Y (decide (Y ≠ 0)) M w e w' := by
  obtain ⟨v, rfl, hv⟩ := ha
  obtain ⟨v', rfl, hu⟩ := hu
  obtain ⟨ao, cap, rfl, -⟩ := id hv
  obtain ⟨ao', cap', rfl, -⟩ := id hu
  have U0 := ((((up_alloc w (.cells #[.bool ba, .slice ao n cap] 26)).tr (up_alloc _ (.cells #[.bool bu, .slice ao' m cap'] 26))).tr (up_alloc _ (.cells #[.bool false, .slice none 0 0] 26))).tr (up_alloc _ (.cells #[.bool false, .slice none 0 0] 26)))
  have K4 := hide (four_blocks w (.cells #[.bool ba, .slice ao n cap] 26) (.cells #[.bool bu, .slice ao' m cap'] 26) (.cells #[.bool false, .slice none 0 0] 26) (.cells #[.bool false, .slice none 0 0] 26))
  have HV := hide (And.intro hv (And.intro hu (And.intro hf hh)))
  have HXY := hide (And.intro hX hY)
  obtain ⟨ok, hok⟩ : ∃ ok, ok = decide (Y ≠ 0) := ⟨_, rfl⟩
  have HOK := hide hok
  rw [← hok]
  clear hv hu hf hh hX hY hok
  go_enter Tryd.func34, Tryd.ntmps34
  go_wp2_with fail
  refine wp_region_knd (by kernel_rfl) w U0 [[], [0], [], [2], [1, 3], [4], [5, 4], [5, 4], [5, 4], [], [], [9, 6, 5, 4], [10, 7, 5, 4], [8]] [.val [] (fun _ g _ => g.v = .agg #[.bool ba, .slice ao n cap]), .val [] (fun _ g _ => Wkd (.agg #[.bool ba, .slice ao n cap]) ba n f g.v), .val [] (fun _ g _ => g.v = .agg #[.bool bu, .slice ao' m cap']), .val [] (fun _ g _ => Wkd (.agg #[.bool bu, .slice ao' m cap']) bu m h g.v), .val [] (fun w g _ => DivR X Y ok (M + 1) M w g.lo g.hi g.v), .val [4] (fun _ g vs => vs = [g.v]), .val [5] (fun _ g vs => ∃ b1 b2, vs = [.tuple #[g.v, b1, b2]]), .val [5] (fun _ g vs => ∃ b0 b2, vs = [.tuple #[b0, g.v, b2]]), .val [5] (fun _ g vs => ∃ b0 b1, vs = [.tuple #[b0, b1, g.v]]), .box 51 2, .box 51 2, .sto 9 6 51 2, .sto 10 7 51 2, .val [8] (fun _ g vs => vs = [g.v])] (by kernel_rfl) (by kernel_rfl) rfl ⟨trivial, trivial, trivial, trivial, trivial, trivial, trivial, trivial, trivial, trivial, trivial, trivial, trivial, trivial, trivial⟩ ⟨fun _ _ _ _ _ h => h, fun _ _ _ _ _ h => h, fun _ _ _ _ _ h => h, fun _ _ _ _ _ h => h, fun _ _ _ _ hb h => h.keep hb, fun _ _ _ _ _ h => h, fun _ _ _ _ _ h => h, fun _ _ _ _ _ h => h, fun _ _ _ _ _ h => h, trivial, trivial, trivial, trivial, fun _ _ _ _ _ h => h, trivial⟩ ⟨?_, ?_, ?_, ?_, ?_, ?_, ?_, ?_, ?_, ?_, ?_, ?_, ?_, ?_, trivial⟩ ?_
  · intro x w1 K hU hS hO hd hK
    obtain ⟨c0, c1, -⟩ := cells2 (Up.blk (Up.tr (up_drew _) (hS.upb rfl)) (unhide K4).1)
    refine Veil.mk ?_; simp only [kgoal, putsFrom, depsOf, pu0, pu1, pu2, pu3, Nat.zero_add, Nat.reduceAdd, Nat.reduceBEq, Bool.or_false, Bool.false_or, Bool.or_true, Bool.true_or, Bool.false_eq_true, ↓reduceIte, Act.put, List.setIfInBounds_toArray, List.set_cons_zero, List.set_cons_succ]
    go_simp
    exact hK _ _ (Up.refl _) rfl
  · intro x w1 K hU hS hO hd hK
    have h0 : (x 0).v = _ := kval (hd 0 (by decide)).1 rfl
    refine Veil.mk ?_; simp only [kgoal, putsFrom, depsOf, pu0, pu1, pu2, pu3, Nat.zero_add, Nat.reduceAdd, Nat.reduceBEq, Bool.or_false, Bool.false_or, Bool.or_true, Bool.true_or, Bool.false_eq_true, ↓reduceIte, Act.put, List.setIfInBounds_toArray, List.set_cons_zero, List.set_cons_succ]
    go_simp
    refine (work_any _ ba n f _ ⟨_, rfl, (unhide HV).1.up hU⟩ (unhide HV).2.2.1).mono ?_
    rintro e w3 ⟨a3, b3, m3, rfl, hw3, u3, c3, l3, s3⟩
    exact hK _ _ u3 ⟨b3, m3, hw3, c3, l3, s3⟩
  · intro x w1 K hU hS hO hd hK
    obtain ⟨c0, c1, -⟩ := cells2 (Up.blk (Up.tr (up_drew _) (hS.upb rfl)) (unhide K4).2.1)
    refine Veil.mk ?_; simp only [kgoal, putsFrom, depsOf, pu0, pu1, pu2, pu3, Nat.zero_add, Nat.reduceAdd, Nat.reduceBEq, Bool.or_false, Bool.false_or, Bool.or_true, Bool.true_or, Bool.false_eq_true, ↓reduceIte, Act.put, List.setIfInBounds_toArray, List.set_cons_zero, List.set_cons_succ]
    go_simp
    exact hK _ _ (Up.refl _) rfl
  · intro x w1 K hU hS hO hd hK
    have h0 : (x 2).v = _ := kval (hd 2 (by decide)).1 rfl
    refine Veil.mk ?_; simp only [kgoal, putsFrom, depsOf, pu0, pu1, pu2, pu3, Nat.zero_add, Nat.reduceAdd, Nat.reduceBEq, Bool.or_false, Bool.false_or, Bool.or_true, Bool.true_or, Bool.false_eq_true, ↓reduceIte, Act.put, List.setIfInBounds_toArray, List.set_cons_zero, List.set_cons_succ]
    go_simp
    refine (work_any _ bu m h _ ⟨_, rfl, (unhide HV).2.1.up hU⟩ (unhide HV).2.2.2).mono ?_
    rintro e w3 ⟨a3, b3, m3, rfl, hw3, u3, c3, l3, s3⟩
    exact hK _ _ u3 ⟨b3, m3, hw3, c3, l3, s3⟩
  · intro x w1 K hU hS hO hd hK
    have h1 : Wkd (.agg #[.bool ba, .slice ao n cap]) ba n f (x 1).v := kval (hd 1 (by decide)).1 rfl
    have h3 : Wkd (.agg #[.bool bu, .slice ao' m cap']) bu m h (x 3).v := kval (hd 3 (by decide)).1 rfl
    obtain ⟨b1, m1, hw1, c1, l1, s1⟩ := h1
    obtain ⟨v1, e1, sv1⟩ := hw1 w ⟨_, rfl, (unhide HV).1⟩
    obtain ⟨b3, m3, hw3, c3, l3, s3⟩ := h3
    obtain ⟨v3, e3, sv3⟩ := hw3 w ⟨_, rfl, (unhide HV).2.1⟩
    obtain ⟨ao1, cap1, rfl, -⟩ := id sv1
    obtain ⟨ao3, cap3, rfl, -⟩ := id sv3
    clear hd
    refine Veil.mk ?_; simp only [kgoal, putsFrom, depsOf, pu0, pu1, pu2, pu3, Nat.zero_add, Nat.reduceAdd, Nat.reduceBEq, Bool.or_false, Bool.false_or, Bool.or_true, Bool.true_or, Bool.false_eq_true, ↓reduceIte, Act.put, List.setIfInBounds_toArray, List.set_cons_zero, List.set_cons_succ]
    go_simp
    refine (divide_all _ _ b1 b3 m1 m3 (M + 1) M f h X Y _ ⟨_, rfl, sv1.up hU⟩ ⟨_, rfl, sv3.up hU⟩ c1.1.1 c3.1.1 (by omega) (s1.trans (unhide HXY).1) (s3.trans (unhide HXY).2) (by omega) (by omega) ok (unhide HOK)).mono ?_
    rintro e w4 ⟨v4, rfl, h4, u4⟩
    exact hK _ _ u4 h4
  · intro x w1 K hU hS hO hd hK
    refine Veil.mk ?_; simp only [kgoal, putsFrom, depsOf, pu0, pu1, pu2, pu3, Nat.zero_add, Nat.reduceAdd, Nat.reduceBEq, Bool.or_false, Bool.false_or, Bool.or_true, Bool.true_or, Bool.false_eq_true, ↓reduceIte, Act.put, List.setIfInBounds_toArray, List.set_cons_zero, List.set_cons_succ]
    go_simp
    exact hK _ _ (Up.refl _) rfl
  · intro x w1 K hU hS hO hd hK
    have h4 : DivR X Y ok (M + 1) M w1 (x 4).lo (x 4).hi (x 4).v := kval (hd 4 (by decide)).1 rfl
    obtain ⟨vq, vr, bq, br, nq, nr, fq, fr, e4, -⟩ := h4
    have e5 : [(x 4).v] = [(x 5).v] := kval (hd 5 (by decide)).1 rfl
    have ej : (x 5).v = _ := (List.cons.inj e5).1.symm.trans e4
    clear hd
    refine Veil.mk ?_; simp only [kgoal, putsFrom, depsOf, pu0, pu1, pu2, pu3, Nat.zero_add, Nat.reduceAdd, Nat.reduceBEq, Bool.or_false, Bool.false_or, Bool.or_true, Bool.true_or, Bool.false_eq_true, ↓reduceIte, Act.put, List.setIfInBounds_toArray, List.set_cons_zero, List.set_cons_succ]
    go_simp
    exact hK _ _ (Up.refl _) ⟨_, _,  by show [(x 5).v] = _; rw [ej]; rfl⟩
  · intro x w1 K hU hS hO hd hK
    have h4 : DivR X Y ok (M + 1) M w1 (x 4).lo (x 4).hi (x 4).v := kval (hd 4 (by decide)).1 rfl
    obtain ⟨vq, vr, bq, br, nq, nr, fq, fr, e4, -⟩ := h4
    have e5 : [(x 4).v] = [(x 5).v] := kval (hd 5 (by decide)).1 rfl
    have ej : (x 5).v = _ := (List.cons.inj e5).1.symm.trans e4
    clear hd
    refine Veil.mk ?_; simp only [kgoal, putsFrom, depsOf, pu0, pu1, pu2, pu3, Nat.zero_add, Nat.reduceAdd, Nat.reduceBEq, Bool.or_false, Bool.false_or, Bool.or_true, Bool.true_or, Bool.false_eq_true, ↓reduceIte, Act.put, List.setIfInBounds_toArray, List.set_cons_zero, List.set_cons_succ]
    go_simp
    exact hK _ _ (Up.refl _) ⟨_, _,  by show [(x 5).v] = _; rw [ej]; rfl⟩
  · intro x w1 K hU hS hO hd hK
    have h4 : DivR X Y ok (M + 1) M w1 (x 4).lo (x 4).hi (x 4).v := kval (hd 4 (by decide)).1 rfl
    obtain ⟨vq, vr, bq, br, nq, nr, fq, fr, e4, -⟩ := h4
    have e5 : [(x 4).v] = [(x 5).v] := kval (hd 5 (by decide)).1 rfl
    have ej : (x 5).v = _ := (List.cons.inj e5).1.symm.trans e4
    clear hd
    refine Veil.mk ?_; simp only [kgoal, putsFrom, depsOf, pu0, pu1, pu2, pu3, Nat.zero_add, Nat.reduceAdd, Nat.reduceBEq, Bool.or_false, Bool.false_or, Bool.or_true, Bool.true_or, Bool.false_eq_true, ↓reduceIte, Act.put, List.setIfInBounds_toArray, List.set_cons_zero, List.set_cons_succ]
    go_simp
    exact hK _ _ (Up.refl _) ⟨_, _,  by show [(x 5).v] = _; rw [ej]; rfl⟩
  · intro x w1 K hU hS hO hd hK
    refine Veil.mk ?_; simp only [kgoal, putsFrom, depsOf, pu0, pu1, pu2, pu3, Nat.zero_add, Nat.reduceAdd, Nat.reduceBEq, Bool.or_false, Bool.false_or, Bool.or_true, Bool.true_or, Bool.false_eq_true, ↓reduceIte, Act.put, List.setIfInBounds_toArray, List.set_cons_zero, List.set_cons_succ]
    go_simp
    exact hK _ _ (up_alloc _ _) (box_new rfl hS)
  · intro x w1 K hU hS hO hd hK
    refine Veil.mk ?_; simp only [kgoal, putsFrom, depsOf, pu0, pu1, pu2, pu3, Nat.zero_add, Nat.reduceAdd, Nat.reduceBEq, Bool.or_false, Bool.false_or, Bool.or_true, Bool.true_or, Bool.false_eq_true, ↓reduceIte, Act.put, List.setIfInBounds_toArray, List.set_cons_zero, List.set_cons_succ]
    go_simp
    exact hK _ _ (up_alloc _ _) (box_new rfl hS)
  · intro x w1 K hU hS hO hd hK
    obtain ⟨c0, c1, eb, hb⟩ := kbox2 (hd 9 (by decide)).1 rfl
    have h4 : DivR X Y ok (M + 1) M w1 (x 4).lo (x 4).hi (x 4).v := kval (hd 4 (by decide)).1 rfl
    obtain ⟨vq, vr, bq, br, nq, nr, fq, fr, e4, oq, -⟩ := h4
    have e5 : [(x 4).v] = [(x 5).v] := kval (hd 5 (by decide)).1 rfl
    have ej : (x 5).v = _ := (List.cons.inj e5).1.symm.trans e4
    have es : ∃ b1 b2, [(x 5).v] = [Value.tuple #[(x 6).v, b1, b2]] := kval (hd 6 (by decide)).1 rfl
    obtain ⟨b1, b2, es⟩ := es
    rw [ej] at es
    replace es : (x 6).v = .agg #[vq, .bool bq] := (tup3 (List.cons.inj es).1).1.symm
    obtain ⟨aoq, capq, rfl, -⟩ := id oq.sl
    clear oq e4 e5 ej
    obtain ⟨d0, d1, f0, f1, -⟩ := cells2 hb
    clear hd
    refine Veil.mk ?_; simp only [kgoal, putsFrom, depsOf, pu0, pu1, pu2, pu3, Nat.zero_add, Nat.reduceAdd, Nat.reduceBEq, Bool.or_false, Bool.false_or, Bool.or_true, Bool.true_or, Bool.false_eq_true, ↓reduceIte, Act.put, List.setIfInBounds_toArray, List.set_cons_zero, List.set_cons_succ]
    go_simp
    exact hK _ _ (sto_two hb _ _).1 ⟨_, rfl, es, (sto_two hb _ _).2⟩
  · intro x w1 K hU hS hO hd hK
    obtain ⟨c0, c1, eb, hb⟩ := kbox2 (hd 10 (by decide)).1 rfl
    have h4 : DivR X Y ok (M + 1) M w1 (x 4).lo (x 4).hi (x 4).v := kval (hd 4 (by decide)).1 rfl
    obtain ⟨vq, vr, bq, br, nq, nr, fq, fr, e4, -, oq, -⟩ := h4
    have e5 : [(x 4).v] = [(x 5).v] := kval (hd 5 (by decide)).1 rfl
    have ej : (x 5).v = _ := (List.cons.inj e5).1.symm.trans e4
    have es : ∃ b0 b2, [(x 5).v] = [Value.tuple #[b0, (x 7).v, b2]] := kval (hd 7 (by decide)).1 rfl
    obtain ⟨b0, b2, es⟩ := es
    rw [ej] at es
    replace es : (x 7).v = .agg #[vr, .bool br] := (tup3 (List.cons.inj es).1).2.1.symm
    obtain ⟨aoq, capq, rfl, -⟩ := id oq.sl
    clear oq e4 e5 ej
    obtain ⟨d0, d1, f0, f1, -⟩ := cells2 hb
    clear hd
    refine Veil.mk ?_; simp only [kgoal, putsFrom, depsOf, pu0, pu1, pu2, pu3, Nat.zero_add, Nat.reduceAdd, Nat.reduceBEq, Bool.or_false, Bool.false_or, Bool.or_true, Bool.true_or, Bool.false_eq_true, ↓reduceIte, Act.put, List.setIfInBounds_toArray, List.set_cons_zero, List.set_cons_succ]
    go_simp
    exact hK _ _ (sto_two hb _ _).1 ⟨_, rfl, es, (sto_two hb _ _).2⟩
  · intro x w1 K hU hS hO hd hK
    refine Veil.mk ?_; simp only [kgoal, putsFrom, depsOf, pu0, pu1, pu2, pu3, Nat.zero_add, Nat.reduceAdd, Nat.reduceBEq, Bool.or_false, Bool.false_or, Bool.or_true, Bool.true_or, Bool.false_eq_true, ↓reduceIte, Act.put, List.setIfInBounds_toArray, List.set_cons_zero, List.set_cons_succ]
    go_simp
    exact hK _ _ (Up.refl _) rfl
  · intro x w1 hU hS hR hlo hdis
    have hG := hS.upb rfl
    obtain ⟨e9, l9⟩ := kbox (hR 9 (by decide)) rfl
    obtain ⟨e10, l10⟩ := kbox (hR 10 (by decide)) rfl
    have h4 : DivR X Y ok (M + 1) M w1 (x 4).lo (x 4).hi (x 4).v := kval (hR 4 (by decide)) rfl
    obtain ⟨vq, vr, bq, br, nq, nr, fq, fr, e4, oq, or, cq, cr, lq, lr, sq, sr⟩ := h4
    have e5 : [(x 4).v] = [(x 5).v] := kval (hR 5 (by decide)) rfl
    have ej : (x 5).v = _ := (List.cons.inj e5).1.symm.trans e4
    have e6 : ∃ b c, [(x 5).v] = [Value.tuple #[(x 6).v, b, c]] := kval (hR 6 (by decide)) rfl
    obtain ⟨p6, p6', e6⟩ := e6
    have e7 : ∃ b c, [(x 5).v] = [Value.tuple #[b, (x 7).v, c]] := kval (hR 7 (by decide)) rfl
    obtain ⟨p7, p7', e7⟩ := e7
    have e8 : ∃ b c, [(x 5).v] = [Value.tuple #[b, c, (x 8).v]] := kval (hR 8 (by decide)) rfl
    obtain ⟨p8, p8', e8⟩ := e8
    have e13 : [(x 8).v] = [(x 13).v] := kval (hR 13 (by decide)) rfl
    obtain ⟨cs8, -, q8, T8⟩ := ksto (hR 11 (by decide)) rfl
    obtain ⟨cs9, -, q9, T9⟩ := ksto (hR 12 (by decide)) rfl
    rw [ej] at e6 e7 e8
    replace e6 : (x 6).v = .agg #[vq, .bool bq] := (tup3 (List.cons.inj e6).1).1.symm
    replace e7 : (x 7).v = .agg #[vr, .bool br] := (tup3 (List.cons.inj e7).1).2.1.symm
    replace e8 : (x 8).v = .bool ok := (tup3 (List.cons.inj e8).1).2.2.symm
    rw [e6] at q8
    cases q8
    rw [e7] at q9
    cases q9
    have e13' : (x 13).v = .bool ok := by rw [← e8]; exact (List.cons.inj e13).1.symm
    have h9lo := (hlo 9 (by decide)).1
    have h10lo := (hlo 10 (by decide)).1
    have h4lo := (hlo 4 (by decide)).1
    simp at h9lo h10lo h4lo
    have T4 := Up.blk (Up.tr (up_drew _) hG) (unhide K4).2.2.1
    have T5 := Up.blk (Up.tr (up_drew _) hG) (unhide K4).2.2.2
    have OQ : Own .u32 64 w1 w.heap.size vq nq fq := oq.1.mono (by omega)
    have OR : Own .u32 64 w1 w.heap.size vr nr fr := or.1.mono (by omega)
    refine Veil.mk ?_; simp only [kgoal, putsFrom, depsOf, pu0, pu1, pu2, pu3, Nat.zero_add, Nat.reduceAdd, Nat.reduceBEq, Bool.or_false, Bool.false_or, Bool.or_true, Bool.true_or, Bool.false_eq_true, ↓reduceIte, Act.put, List.setIfInBounds_toArray, List.set_cons_zero, List.set_cons_succ]
    rw [e9, e10, e13']
    generalize (x 9).lo = g8 at *
    generalize (x 10).lo = g9 at *
    generalize (x 0).v = y0 at *
    generalize (x 1).v = y1 at *
    generalize (x 2).v = y2 at *
    generalize (x 3).v = y3 at *
    generalize (x 4).v = y4 at *
    generalize (x 5).v = y5 at *
    generalize (x 6).v = y6 at *
    generalize (x 7).v = y7 at *
    generalize (x 8).v = y8 at *
    have UW := hU
    obtain ⟨aoq, capq, rfl, -⟩ := id OQ.sl
    obtain ⟨aor, capr, rfl, -⟩ := id OR.sl
    clear hR hlo hdis hG hS oq or e4 e5 ej e6 e7 e8 e9 e10 e13 e13' hU K4 U0
    go_wp2_with fail
    have n84 : g8 ≠ w.heap.size + 1 + 1 := by omega
    have n85 : g8 ≠ w.heap.size + 1 + 1 + 1 := by omega
    have n94 : g9 ≠ w.heap.size + 1 + 1 := by omega
    have n95 : g9 ≠ w.heap.size + 1 + 1 + 1 := by omega
    refine wp_region_knd (by kernel_rfl) w UW [[], [0], [], [2], [], [1, 0], [3, 2], [4]] [.val [] (fun _ g _ => g.v = .agg #[Value.slice aoq nq capq, .bool bq]), .val [] (fun _ g _ => g.v = .agg #[.bool bq, .slice aoq nq capq]), .val [] (fun _ g _ => g.v = .agg #[Value.slice aor nr capr, .bool br]), .val [] (fun _ g _ => g.v = .agg #[.bool br, .slice aor nr capr]), .val [] (fun _ g _ => g.v = .bool ok), .old (w.heap.size + 1 + 1) 1 26 2, .old (w.heap.size + 1 + 1 + 1) 3 26 2, .val [4] (fun _ g vs => vs = [g.v])] (by kernel_rfl) (by kernel_rfl) rfl ⟨trivial, trivial, trivial, trivial, trivial, ⟨by omega, (Array.getElem?_eq_some_iff.1 T4).1, by simp [oldG]⟩, ⟨by omega, (Array.getElem?_eq_some_iff.1 T5).1, by simp [oldG]⟩, trivial, trivial⟩ ⟨fun _ _ _ _ _ h => h, fun _ _ _ _ _ h => h, fun _ _ _ _ _ h => h, fun _ _ _ _ _ h => h, fun _ _ _ _ _ h => h, trivial, trivial, fun _ _ _ _ _ h => h, trivial⟩ ⟨?_, ?_, ?_, ?_, ?_, ?_, ?_, ?_, trivial⟩ ?_
    · intro x w1 K hU hS hO hd hK
      obtain ⟨c0, c1, -⟩ := cells2 (hS.at T8 ⟨trivial, trivial, trivial, trivial, trivial, n84, n85, trivial, trivial⟩)
      refine Veil.mk ?_; simp only [kgoal, putsFrom, depsOf, pu0, pu1, pu2, pu3, Nat.zero_add, Nat.reduceAdd, Nat.reduceBEq, Bool.or_false, Bool.false_or, Bool.or_true, Bool.true_or, Bool.false_eq_true, ↓reduceIte, Act.put, List.setIfInBounds_toArray, List.set_cons_zero, List.set_cons_succ]
      go_simp
      exact hK _ _ (Up.refl _) rfl
    · intro x w1 K hU hS hO hd hK
      have h0 : (x 0).v = _ := kval (hd 0 (by decide)).1 rfl
      refine Veil.mk ?_; simp only [kgoal, putsFrom, depsOf, pu0, pu1, pu2, pu3, Nat.zero_add, Nat.reduceAdd, Nat.reduceBEq, Bool.or_false, Bool.false_or, Bool.or_true, Bool.true_or, Bool.false_eq_true, ↓reduceIte, Act.put, List.setIfInBounds_toArray, List.set_cons_zero, List.set_cons_succ]
      go_simp
      refine (answer_any _ bq nq fq _ ⟨_, rfl, ((OQ.up (up_drew _)).since hS ⟨trivial, trivial, trivial, trivial, trivial, ⟨_, _, T4, by decide⟩, ⟨_, _, T5, by decide⟩, trivial, trivial⟩).sl⟩).mono ?_
      rintro e w2 ⟨a2, rfl, h2, u2⟩
      exact hK _ _ u2 (h2 _ rfl)
    · intro x w1 K hU hS hO hd hK
      obtain ⟨c0, c1, -⟩ := cells2 (hS.at T9 ⟨trivial, trivial, trivial, trivial, trivial, n94, n95, trivial, trivial⟩)
      refine Veil.mk ?_; simp only [kgoal, putsFrom, depsOf, pu0, pu1, pu2, pu3, Nat.zero_add, Nat.reduceAdd, Nat.reduceBEq, Bool.or_false, Bool.false_or, Bool.or_true, Bool.true_or, Bool.false_eq_true, ↓reduceIte, Act.put, List.setIfInBounds_toArray, List.set_cons_zero, List.set_cons_succ]
      go_simp
      exact hK _ _ (Up.refl _) rfl
    · intro x w1 K hU hS hO hd hK
      have h0 : (x 2).v = _ := kval (hd 2 (by decide)).1 rfl
      refine Veil.mk ?_; simp only [kgoal, putsFrom, depsOf, pu0, pu1, pu2, pu3, Nat.zero_add, Nat.reduceAdd, Nat.reduceBEq, Bool.or_false, Bool.false_or, Bool.or_true, Bool.true_or, Bool.false_eq_true, ↓reduceIte, Act.put, List.setIfInBounds_toArray, List.set_cons_zero, List.set_cons_succ]
      go_simp
      refine (answer_any _ br nr fr _ ⟨_, rfl, ((OR.up (up_drew _)).since hS ⟨trivial, trivial, trivial, trivial, trivial, ⟨_, _, T4, by decide⟩, ⟨_, _, T5, by decide⟩, trivial, trivial⟩).sl⟩).mono ?_
      rintro e w2 ⟨a2, rfl, h2, u2⟩
      exact hK _ _ u2 (h2 _ rfl)
    · intro x w1 K hU hS hO hd hK
      refine Veil.mk ?_; simp only [kgoal, putsFrom, depsOf, pu0, pu1, pu2, pu3, Nat.zero_add, Nat.reduceAdd, Nat.reduceBEq, Bool.or_false, Bool.false_or, Bool.or_true, Bool.true_or, Bool.false_eq_true, ↓reduceIte, Act.put, List.setIfInBounds_toArray, List.set_cons_zero, List.set_cons_succ]
      go_simp
      exact hK _ _ (Up.refl _) rfl
    · intro x w1 K hU hS hO hd hK
      have es : (x 1).v = _ := kval (hd 1 (by decide)).1 rfl
      have tt := (hO 5 _ _ rfl rfl (.inl rfl)).trans T4
      obtain ⟨d0, d1, f0, f1, -⟩ := cells2 tt
      clear hd
      refine Veil.mk ?_; simp only [kgoal, putsFrom, depsOf, pu0, pu1, pu2, pu3, Nat.zero_add, Nat.reduceAdd, Nat.reduceBEq, Bool.or_false, Bool.false_or, Bool.or_true, Bool.true_or, Bool.false_eq_true, ↓reduceIte, Act.put, List.setIfInBounds_toArray, List.set_cons_zero, List.set_cons_succ]
      go_simp
      exact hK _ _ (sto_two tt _ _).1 ⟨_, rfl, es, (sto_two tt _ _).2⟩
    · intro x w1 K hU hS hO hd hK
      have es : (x 3).v = _ := kval (hd 3 (by decide)).1 rfl
      have tt := (hO 6 _ _ rfl rfl (.inl rfl)).trans T5
      obtain ⟨d0, d1, f0, f1, -⟩ := cells2 tt
      clear hd
      refine Veil.mk ?_; simp only [kgoal, putsFrom, depsOf, pu0, pu1, pu2, pu3, Nat.zero_add, Nat.reduceAdd, Nat.reduceBEq, Bool.or_false, Bool.false_or, Bool.or_true, Bool.true_or, Bool.false_eq_true, ↓reduceIte, Act.put, List.setIfInBounds_toArray, List.set_cons_zero, List.set_cons_succ]
      go_simp
      exact hK _ _ (sto_two tt _ _).1 ⟨_, rfl, es, (sto_two tt _ _).2⟩
    · intro x w1 K hU hS hO hd hK
      refine Veil.mk ?_; simp only [kgoal, putsFrom, depsOf, pu0, pu1, pu2, pu3, Nat.zero_add, Nat.reduceAdd, Nat.reduceBEq, Bool.or_false, Bool.false_or, Bool.or_true, Bool.true_or, Bool.false_eq_true, ↓reduceIte, Act.put, List.setIfInBounds_toArray, List.set_cons_zero, List.set_cons_succ]
      go_simp
      exact hK _ _ (Up.refl _) rfl
    · intro x w1 hU hS hR hlo hdis
      have h1 : (x 1).v = _ := kval (hR 1 (by decide)) rfl
      have h3 : (x 3).v = _ := kval (hR 3 (by decide)) rfl
      have h4 : (x 4).v = _ := kval (hR 4 (by decide)) rfl
      have h7 : [(x 4).v] = [(x 7).v] := kval (hR 7 (by decide)) rfl
      obtain ⟨cs5, -, q5, t5⟩ := kold (hR 5 (by decide)) rfl
      obtain ⟨cs6, -, q6, t6⟩ := kold (hR 6 (by decide)) rfl
      rw [h1] at q5
      cases q5
      rw [h3] at q6
      cases q6
      have e7 : (x 7).v = .bool ok := by rw [← h4]; exact (List.cons.inj h7).1.symm
      have OQ' := (OQ.up (up_drew _)).since hS ⟨trivial, trivial, trivial, trivial, trivial, ⟨_, _, T4, by decide⟩, ⟨_, _, T5, by decide⟩, trivial, trivial⟩
      have OR' := (OR.up (up_drew _)).since hS ⟨trivial, trivial, trivial, trivial, trivial, ⟨_, _, T4, by decide⟩, ⟨_, _, T5, by decide⟩, trivial, trivial⟩
      obtain ⟨d0, d1, -⟩ := cells2 t5
      obtain ⟨d2, d3, -⟩ := cells2 t6
      refine Veil.mk ?_; simp only [kgoal, putsFrom, depsOf, pu0, pu1, pu2, pu3, Nat.zero_add, Nat.reduceAdd, Nat.reduceBEq, Bool.or_false, Bool.false_or, Bool.or_true, Bool.true_or, Bool.false_eq_true, ↓reduceIte, Act.put, List.setIfInBounds_toArray, List.set_cons_zero, List.set_cons_succ]
      rw [e7]
      clear hR hlo hdis h7 hS n84 n85 n94 n95 T4 T5 T8 T9 OQ OR
      go_wp2_with fail
      refine bodyPost_ret (by simp [results, Tryd.results34, go_sem, d0, d1, d2, d3]; rfl) rfl ?_
      exact ⟨_, _, bq, br, nq, nr, fq, fr, rfl, ⟨_, rfl, OQ'⟩, ⟨_, rfl, OR'⟩, hU, cq, cr, lq, lr, sq, sr⟩


end Go.Proofs.YtjbocfhmfidjjaaDoor
