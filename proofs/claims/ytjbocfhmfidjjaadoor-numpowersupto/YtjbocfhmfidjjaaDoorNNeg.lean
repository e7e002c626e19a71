/-
  What is proved here: num.Neg and num.Sub.
-/
import Derived.Test.YtjbocfhmfidjjaaDoorNMul
namespace Go.Proofs.YtjbocfhmfidjjaaDoor
open Go Go.RowKit

theorem wpList_mkS {w : World} {ops : Array Oper} {rest : List Oper} {o : Oper} {a : Act} {Q : Exit → Act → World → Prop}
    (hg : o.guard = none) (l c : Operand) (hop : o.op = Op.makeSlice 49 l c)
    (kl kc : IntKind) (L C : Int) (n : Nat) (hl : a.eval l = .int kl L) (hc : a.eval c = .int kc C) (hL : L = (n : Int)) (hC : C = (n : Int)) (b2 : 4 * n ≤ 281474976710656)
    (hK : ∀ w', RowAt .u32 64 w' w.heap.size n n (fun _ => 0) → Below w.heap.size w w' → wpList Tryd.prog ops Q rest (a.put o.dst (.slice (some ⟨w.heap.size, 0, none⟩) n n)) w') :
    wpList Tryd.prog ops Q (o :: rest) a w := by
  obtain ⟨i, hi, hz0, hz1, hz2⟩ := info_parts infoU
  refine wpList_make_full w hg l c 49 hop w.heap.size 64 i (.int .u32 0) 1 Tryd.underlying49 hi hz0 hz1 kl kc L C n hl hc hL hC (by rw [hz2]; exact b2) (by unfold maxLen; omega) (Nat.le_refl _) ?_
  intro w' hown hgrow
  refine hK w' ?_ (Below.of_grown hgrow)
  have ho : Own .u32 64 w' w.heap.size (.slice (some ⟨w.heap.size, 0, none⟩) n n) n (fun _ => 0) :=
    Own.of_row hown (fun j hj => by
      rw [show (Value.int .u32 0).cells = #[Value.int .u32 0] from rfl, toList_madeCells_one]
      simp [hj])
  rcases ho with ⟨h, _⟩ | ⟨g, cap, h, _, _, hr⟩
  · cases h
  · cases h
    exact hr

set_option maxHeartbeats 400000 in
theorem copied_any (ao : Option Addr) (n cap : Nat) (f : Nat → Nat) (w : World) (h : Rd .u32 w ao n f) (hn : 4 * n ≤ 281474976710656) :
    Calls Tryd.prog 61 #[.slice ao n cap] w fun e w' => ∃ v, e = .returned v ∧ Own .u32 64 w' w.heap.size v n f ∧ Up w w' := by
  have hcs := cellsOf_length .u32 f n
  have hmin : (cellsOf .u32 f n).length = Nat.min n n := by rw [hcs]; exact (Nat.min_self n).symm
  go_enter Tryd.func61, Tryd.ntmps61
  go_wp2_with (first
    | (at_make; refine wpList_mkS rfl _ _ rfl .i64 .i64 _ _ n rfl rfl rfl rfl hn ?_; intro w1 hr hb; obtain ⟨cur, h1, h2, h3, h4⟩ := id hr; have h1' : w1.heap[w.heap.size]? = some (.cells cur.toList.toArray 64 (0, 0)) := (by simpa using h1))
    | (refine wpList_copy_splice rfl (.tmp 7) (.tmp 8) 49 49 rfl 64 Tryd.underlying49 (by kernel_rfl) _ _ _ _ _ _ rfl rfl w.heap.size 0 cur.toList 64 h1' (cellsOf .u32 f n) hmin (fun hp => ⟨rfl, by rw [hcs] at hp; obtain ⟨b, off, e, hl, hc⟩ := h.cells hp; exact ⟨_, e, cells_below hb hl hc⟩⟩) (by rw [hcs]; simp; omega) (cellsOf_one _ _ _) w.heap.size w hb (Nat.le_refl _) ?_; intro w2 HG hb2; clear h1 h1' hr hb))
  go_ret
  refine ⟨_, rfl, .inr ⟨_, _, rfl, Nat.le_refl _, by omega, _, HG.out, ?_, Nat.le_refl _, fun i hi => ?_⟩, hb2⟩
  · simp [splice, hcs]; omega
  · simp only [splice, List.take_zero, List.nil_append, hcs, Nat.zero_add]
    rw [List.getElem?_toArray, List.getElem?_append_left (by rw [hcs]; exact hi), cellsOf_get _ _ _ _ hi]

set_option linter.unusedSimpArgs false in
set_option maxRecDepth 4000 in
set_option maxHeartbeats 4000000 in
theorem negz_any (a : Value) (b : Bool) (n : Nat) (f : Nat → Nat) (X : Int) (w : World) (ha : Nm w a b n f) (hf : ∀ i, i < n → f i < 4294967296) (hn : 4 * n ≤ 281474976710656) (hX : sgn b (num 4294967296 f n) = X) :
    Calls Tryd.prog 30 #[a] w fun e w' => NumEnd (-X) n w e w' := by
  obtain ⟨v, rfl, hv⟩ := ha
  obtain ⟨ao, cap, rfl, -⟩ := id hv
  have K2 := hide (two_blocks w (.cells #[.bool b, .slice ao n cap] 26) (.cells #[.bool false, .slice none 0 0] 26))
  go_enter Tryd.func30, Tryd.ntmps30
  go_wp2_with fail
  refine (work_any _ b n f _ ⟨_, rfl, hv.up ((up_alloc _ _).tr (up_alloc _ _))⟩ hf).mono ?_
  rintro e w1 ⟨a1, b1, m2, rfl, hw1, u1, c1, l1, s1⟩
  have k1 := hw1 w ⟨_, rfl, hv⟩
  have HW := hide hw1
  go_wp2_with fail
  refine (turned_any _ b1 m2 f _ (k1.up (((up_alloc w _).tr (up_alloc _ _)).tr u1)) c1.1).mono ?_
  rintro e w2 ⟨a2, b2, rfl, hw2, u2, c2, s2⟩
  obtain ⟨v2, rfl, sv2⟩ := hw2 w k1
  obtain ⟨ao2, cap2, rfl, -⟩ := id sv2
  have hz2 : w.heap.size + 1 < w2.heap.size := by have h1 := Below.size u1; have h2 := Below.size u2; simp at h1; omega
  have HV := hide (And.intro sv2 (And.intro c2 (show sgn b2 (num 4294967296 f m2) = -X from by rw [s2, s1, hX])))
  have UW := (((up_alloc w (.cells #[.bool b, .slice ao n cap] 26)).tr (up_alloc _ (.cells #[.bool false, .slice none 0 0] 26))).tr (u1.tr u2)).tr (up_alloc w2 (.cells #[.slice ao2 m2 cap2, .bool b2] 51))
  have T2 := ((u1.tr u2).tr (up_alloc w2 (.cells #[.slice ao2 m2 cap2, .bool b2] 51))).blk (unhide K2).2
  have TG : (w2.alloc (.cells #[.slice ao2 m2 cap2, .bool b2] 51)).heap[w2.heap.size]? = some (.cells #[.slice ao2 m2 cap2, .bool b2] 51 (0, 0)) := heap_alloc_new w2 _
  clear sv2 c2 s2 s1 hX hw1 hw2 k1 HW K2 u1 u2 c1 hf
  go_wp2_with fail
  have nG : w2.heap.size ≠ w.heap.size + 1 := by omega
  refine wp_region_knd (by kernel_rfl) w UW [[], [0], [1], [], [3], [2, 4], [5, 2], [6, 2]] [.val [] (fun _ g _ => g.v = .pointer (some ⟨w2.heap.size, 0, none⟩)), .val [] (fun _ g _ => g.v = .slice ao2 m2 cap2), .val [] (fun w g _ => OwnIn w g.lo g.hi g.v m2 f), .val [] (fun _ g _ => g.v = .pointer (some ⟨w2.heap.size, 1, none⟩)), .val [] (fun _ g _ => g.v = .bool b2), .val [2] (fun _ g vs => ∃ v, vs = [v] ∧ g.v = .agg #[v, .bool b2]), .val [2] (fun _ g vs => ∃ v, vs = [v] ∧ g.v = .agg #[.bool b2, v]), .old (w.heap.size + 1) 6 26 2] (by kernel_rfl) (by kernel_rfl) rfl ⟨trivial, trivial, trivial, trivial, trivial, trivial, trivial, ⟨by omega, (Array.getElem?_eq_some_iff.1 T2).1, by simp [oldG]⟩, trivial⟩ ⟨fun _ _ _ _ _ h => h, fun _ _ _ _ _ h => h, fun _ _ _ _ hb h => h.keep hb, fun _ _ _ _ _ h => h, fun _ _ _ _ _ h => h, fun _ _ _ _ _ h => h, fun _ _ _ _ _ h => h, trivial, trivial⟩ ⟨?_, ?_, ?_, ?_, ?_, ?_, ?_, ?_, trivial⟩ ?_
  · intro x w1 K hU hS hO hd hK
    clear hd
    refine Veil.mk ?_; simp only [kgoal, putsFrom, depsOf, pu0, pu1, pu2, pu3, Nat.zero_add, Nat.reduceAdd, Nat.reduceBEq, Bool.or_false, Bool.false_or, Bool.or_true, Bool.true_or, Bool.false_eq_true, ↓reduceIte, Act.put, List.setIfInBounds_toArray, List.set_cons_zero, List.set_cons_succ]
    go_simp
    exact hK _ _ (Up.refl _) rfl
  · intro x w1 K hU hS hO hd hK
    have h0 : (x 0).v = _ := kval (hd 0 (by decide)).1 rfl
    obtain ⟨c0, c1, -⟩ := cells2 (hS.at TG ⟨trivial, trivial, trivial, trivial, trivial, trivial, trivial, nG, trivial⟩)
    clear hd
    refine Veil.mk ?_; simp only [kgoal, putsFrom, depsOf, pu0, pu1, pu2, pu3, Nat.zero_add, Nat.reduceAdd, Nat.reduceBEq, Bool.or_false, Bool.false_or, Bool.or_true, Bool.true_or, Bool.false_eq_true, ↓reduceIte, Act.put, List.setIfInBounds_toArray, List.set_cons_zero, List.set_cons_succ]
    simp only [h0]
    go_simp
    exact hK _ _ (Up.refl _) rfl
  · intro x w1 K hU hS hO hd hK
    have h0 : (x 1).v = _ := kval (hd 1 (by decide)).1 rfl
    clear hd
    refine Veil.mk ?_; simp only [kgoal, putsFrom, depsOf, pu0, pu1, pu2, pu3, Nat.zero_add, Nat.reduceAdd, Nat.reduceBEq, Bool.or_false, Bool.false_or, Bool.or_true, Bool.true_or, Bool.false_eq_true, ↓reduceIte, Act.put, List.setIfInBounds_toArray, List.set_cons_zero, List.set_cons_succ]
    simp only [h0]
    go_simp
    obtain ⟨r1, r2, r3⟩ := ((unhide HV).1.up hU).rd
    refine (copied_any _ m2 _ f _ r1 (by omega)).mono ?_
    rintro e w2 ⟨v2, rfl, o2, u2⟩
    exact hK _ _ u2 (OwnIn.of o2)
  · intro x w1 K hU hS hO hd hK
    clear hd
    refine Veil.mk ?_; simp only [kgoal, putsFrom, depsOf, pu0, pu1, pu2, pu3, Nat.zero_add, Nat.reduceAdd, Nat.reduceBEq, Bool.or_false, Bool.false_or, Bool.or_true, Bool.true_or, Bool.false_eq_true, ↓reduceIte, Act.put, List.setIfInBounds_toArray, List.set_cons_zero, List.set_cons_succ]
    go_simp
    exact hK _ _ (Up.refl _) rfl
  · intro x w1 K hU hS hO hd hK
    have h0 : (x 3).v = _ := kval (hd 3 (by decide)).1 rfl
    obtain ⟨c0, c1, -⟩ := cells2 (hS.at TG ⟨trivial, trivial, trivial, trivial, trivial, trivial, trivial, nG, trivial⟩)
    clear hd
    refine Veil.mk ?_; simp only [kgoal, putsFrom, depsOf, pu0, pu1, pu2, pu3, Nat.zero_add, Nat.reduceAdd, Nat.reduceBEq, Bool.or_false, Bool.false_or, Bool.or_true, Bool.true_or, Bool.false_eq_true, ↓reduceIte, Act.put, List.setIfInBounds_toArray, List.set_cons_zero, List.set_cons_succ]
    simp only [h0]
    go_simp
    exact hK _ _ (Up.refl _) rfl
  · intro x w1 K hU hS hO hd hK
    have h2 : OwnIn w1 (x 2).lo (x 2).hi (x 2).v m2 f := kval (hd 2 (by decide)).1 rfl
    have h4 : (x 4).v = _ := kval (hd 4 (by decide)).1 rfl
    obtain ⟨ao3, cap3, e3, -⟩ := id h2.sl
    clear hd
    refine Veil.mk ?_; simp only [kgoal, putsFrom, depsOf, pu0, pu1, pu2, pu3, Nat.zero_add, Nat.reduceAdd, Nat.reduceBEq, Bool.or_false, Bool.false_or, Bool.or_true, Bool.true_or, Bool.false_eq_true, ↓reduceIte, Act.put, List.setIfInBounds_toArray, List.set_cons_zero, List.set_cons_succ]
    simp only [h4, e3]
    go_simp
    exact hK _ _ (Up.refl _) ⟨_, by show [(x 2).v] = _; rw [e3], rfl⟩
  · intro x w1 K hU hS hO hd hK
    have h2 : OwnIn w1 (x 2).lo (x 2).hi (x 2).v m2 f := kval (hd 2 (by decide)).1 rfl
    have h5 : ∃ v, [(x 2).v] = [v] ∧ (x 5).v = .agg #[v, .bool b2] := kval (hd 5 (by decide)).1 rfl
    obtain ⟨v5, e5, e5'⟩ := h5
    obtain rfl := (List.cons.inj e5).1
    clear hd
    refine Veil.mk ?_; simp only [kgoal, putsFrom, depsOf, pu0, pu1, pu2, pu3, Nat.zero_add, Nat.reduceAdd, Nat.reduceBEq, Bool.or_false, Bool.false_or, Bool.or_true, Bool.true_or, Bool.false_eq_true, ↓reduceIte, Act.put, List.setIfInBounds_toArray, List.set_cons_zero, List.set_cons_succ]
    simp only [e5']
    go_simp
    refine (answer_any _ b2 m2 f _ ⟨_, rfl, h2.sl⟩).mono ?_
    rintro e w2 ⟨a2, rfl, h3, u2⟩
    exact hK _ _ u2 ⟨_, rfl, h3 _ rfl⟩
  · intro x w1 K hU hS hO hd hK
    have h2 : OwnIn w1 (x 2).lo (x 2).hi (x 2).v m2 f := kval (hd 2 (by decide)).1 rfl
    obtain ⟨ao3, cap3, e3, -⟩ := id h2.sl
    have h6 : ∃ v, [(x 2).v] = [v] ∧ (x 6).v = .agg #[.bool b2, v] := kval (hd 6 (by decide)).1 rfl
    obtain ⟨v6, e6, es⟩ := h6
    obtain rfl := (List.cons.inj e6).1
    rw [e3] at es
    clear h2
    have tt := (hO 7 _ _ rfl rfl (.inl rfl)).trans T2
    obtain ⟨d0, d1, f0, f1, -⟩ := cells2 tt
    clear hd
    refine Veil.mk ?_; simp only [kgoal, putsFrom, depsOf, pu0, pu1, pu2, pu3, Nat.zero_add, Nat.reduceAdd, Nat.reduceBEq, Bool.or_false, Bool.false_or, Bool.or_true, Bool.true_or, Bool.false_eq_true, ↓reduceIte, Act.put, List.setIfInBounds_toArray, List.set_cons_zero, List.set_cons_succ]
    go_simp
    exact hK _ _ (sto_two tt _ _).1 ⟨_, rfl, es, (sto_two tt _ _).2⟩
  · intro x w1 hU hS hR hlo hdis
    have h2 : OwnIn w1 (x 2).lo (x 2).hi (x 2).v m2 f := kval (hR 2 (by decide)) rfl
    have h6 : ∃ v, [(x 2).v] = [v] ∧ (x 6).v = .agg #[.bool b2, v] := kval (hR 6 (by decide)) rfl
    obtain ⟨v6, e6, es⟩ := h6
    obtain rfl := (List.cons.inj e6).1
    obtain ⟨cs, -, q, tt⟩ := kold (hR 7 (by decide)) rfl
    rw [es] at q
    cases q
    have z2 := (hlo 2 (by decide)).1
    simp at z2
    have OQ : Own .u32 64 w1 w.heap.size _ m2 f := h2.1.mono (by omega)
    obtain ⟨ao3, cap3, e3, -⟩ := id OQ.sl
    rw [e3] at tt OQ
    obtain ⟨d0, d1, -⟩ := cells2 tt
    refine Veil.mk ?_; simp only [kgoal, putsFrom, depsOf, pu0, pu1, pu2, pu3, Nat.zero_add, Nat.reduceAdd, Nat.reduceBEq, Bool.or_false, Bool.false_or, Bool.or_true, Bool.true_or, Bool.false_eq_true, ↓reduceIte, Act.put, List.setIfInBounds_toArray, List.set_cons_zero, List.set_cons_succ]
    rw [es]
    clear hR hlo hdis hS tt h2
    go_wp2_with fail
    refine bodyPost_ret (by simp [results, Tryd.results30, go_sem, d0, d1]; rfl) rfl ?_
    exact ⟨_, b2, m2, f, rfl, ⟨_, rfl, OQ⟩, hU, (unhide HV).2.1, by omega, (unhide HV).2.2⟩

set_option linter.unusedSimpArgs false in
set_option maxRecDepth 4000 in
set_option maxHeartbeats 4000000 in
theorem subz_any (a u : Value) (ba bu : Bool) (n m M : Nat) (f h : Nat → Nat) (X Y : Int) (w : World) (ha : Nm w a ba n f) (hu : Nm w u bu m h) (hf : ∀ i, i < n → f i < 4294967296) (hh : ∀ i, i < m → h i < 4294967296) (hn : n ≤ M) (hm : m ≤ M) (hM : 4 * (M + 1) ≤ 281474976710656)
    (hX : sgn ba (num 4294967296 f n) = X) (hY : sgn bu (num 4294967296 h m) = Y) :
    Calls Tryd.prog 28 #[a, u] w fun e w' => NumEnd (X - Y) (M + 1) w e w' := by
  obtain ⟨v, rfl, hv⟩ := ha
  obtain ⟨v', rfl, hu⟩ := hu
  obtain ⟨ao, cap, rfl, -⟩ := id hv
  obtain ⟨ao', cap', rfl, -⟩ := id hu
  have U0 := ((up_alloc w (.cells #[.bool ba, .slice ao n cap] 26)).tr (up_alloc _ (.cells #[.bool bu, .slice ao' m cap'] 26))).tr (up_alloc _ (.cells #[.bool false, .slice none 0 0] 26))
  have K3 := hide (three_blocks w (.cells #[.bool ba, .slice ao n cap] 26) (.cells #[.bool bu, .slice ao' m cap'] 26) (.cells #[.bool false, .slice none 0 0] 26))
  have T2 := (unhide K3).2.2
  have n02 : w.heap.size ≠ w.heap.size + 1 + 1 := by omega
  have n12 : w.heap.size + 1 ≠ w.heap.size + 1 + 1 := by omega
  have HV := hide (And.intro hv (And.intro hu (And.intro hf hh)))
  have HXY := hide (And.intro hX hY)
  clear hv hu hf hh hX hY
  go_enter Tryd.func28, Tryd.ntmps28
  go_wp2_with fail
  refine wp_region_knd (by kernel_rfl) w U0 [[], [0], [], [2], [3], [1, 4], [5, 1, 4], [6], [7, 6]] [.val [] (fun _ g _ => g.v = .agg #[.bool ba, .slice ao n cap]), .val [] (fun _ g _ => Wkd (.agg #[.bool ba, .slice ao n cap]) ba n f g.v), .val [] (fun _ g _ => g.v = .agg #[.bool bu, .slice ao' m cap']), .val [] (fun _ g _ => Wkd (.agg #[.bool bu, .slice ao' m cap']) bu m h g.v), .val [] (fun _ g _ => ∃ b' m', (∀ w0, Nm w0 (.agg #[.bool bu, .slice ao' m cap']) bu m h → Wk w0 g.v b' m' h) ∧ CanZ b' h m' ∧ m' ≤ m ∧ sgn b' (num 4294967296 h m') = -sgn bu (num 4294967296 h m)), .val [1, 4] (fun w g vs => g.v = .slice (some ⟨g.lo, 0, none⟩) 2 2 ∧ g.lo < g.hi ∧ ∃ v1 b1 v2 b2, vs = [Value.agg #[v1, .bool b1], .agg #[v2, .bool b2]] ∧ w.heap[g.lo]? = some (.cells #[v1, .bool b1, v2, .bool b2] 51 (0, 0))), .val [] (fun w g _ => ∃ v b n' f', g.v = .agg #[v, .bool b] ∧ OwnIn w g.lo g.hi v n' f' ∧ CanZ b f' n' ∧ n' ≤ M + 1 ∧ sgn b (num 4294967296 f' n') = X - Y), .val [6] (fun _ g vs => ∃ v b, vs = [Value.agg #[v, .bool b]] ∧ g.v = .agg #[.bool b, v]), .old (w.heap.size + 1 + 1) 7 26 2] (by kernel_rfl) (by kernel_rfl) rfl ⟨trivial, trivial, trivial, trivial, trivial, trivial, trivial, trivial, ⟨by omega, (Array.getElem?_eq_some_iff.1 T2).1, by simp [oldG]⟩, trivial⟩ ⟨fun _ _ _ _ _ h => h, fun _ _ _ _ _ h => h, fun _ _ _ _ _ h => h, fun _ _ _ _ _ h => h, fun _ _ _ _ _ h => h, (fun _ _ _ _ hb h => by obtain ⟨h1, h2, v1, b1, v2, b2, h3, h4⟩ := h; exact ⟨h1, h2, v1, b1, v2, b2, h3, (hb _ (Nat.le_refl _) h2).trans h4⟩), (fun _ _ _ _ hb h => by obtain ⟨v, b, n', f', h1, h2, h3⟩ := h; exact ⟨v, b, n', f', h1, h2.keep hb, h3⟩), fun _ _ _ _ _ h => h, trivial, trivial⟩ ⟨?_, ?_, ?_, ?_, ?_, ?_, ?_, ?_, ?_, trivial⟩ ?_
  · intro x w1 K hU hS hO hd hK
    obtain ⟨c0, c1, -⟩ := cells2 (hS.at (b := w.heap.size) (unhide K3).1 ⟨trivial, trivial, trivial, trivial, trivial, trivial, trivial, trivial, n02, trivial⟩)
    refine Veil.mk ?_; simp only [kgoal, putsFrom, depsOf, pu0, pu1, pu2, pu3, Nat.zero_add, Nat.reduceAdd, Nat.reduceBEq, Bool.or_false, Bool.false_or, Bool.or_true, Bool.true_or, Bool.false_eq_true, ↓reduceIte, Act.put, List.setIfInBounds_toArray, List.set_cons_zero, List.set_cons_succ]
    go_simp
    exact hK _ _ (Up.refl _) rfl
  · intro x w1 K hU hS hO hd hK
    have h0 : (x 0).v = _ := kval (hd 0 (by decide)).1 rfl
    refine Veil.mk ?_; simp only [kgoal, putsFrom, depsOf, pu0, pu1, pu2, pu3, Nat.zero_add, Nat.reduceAdd, Nat.reduceBEq, Bool.or_false, Bool.false_or, Bool.or_true, Bool.true_or, Bool.false_eq_true, ↓reduceIte, Act.put, List.setIfInBounds_toArray, List.set_cons_zero, List.set_cons_succ]
    simp only [h0]
    go_simp
    refine (work_any _ ba n f _ ⟨_, rfl, (unhide HV).1.up hU⟩ (unhide HV).2.2.1).mono ?_
    rintro e w3 ⟨a3, b3, m3, rfl, hw3, u3, c3, l3, s3⟩
    exact hK _ _ u3 ⟨b3, m3, hw3, c3, l3, s3⟩
  · intro x w1 K hU hS hO hd hK
    obtain ⟨c0, c1, -⟩ := cells2 (hS.at (b := w.heap.size + 1) (unhide K3).2.1 ⟨trivial, trivial, trivial, trivial, trivial, trivial, trivial, trivial, n12, trivial⟩)
    refine Veil.mk ?_; simp only [kgoal, putsFrom, depsOf, pu0, pu1, pu2, pu3, Nat.zero_add, Nat.reduceAdd, Nat.reduceBEq, Bool.or_false, Bool.false_or, Bool.or_true, Bool.true_or, Bool.false_eq_true, ↓reduceIte, Act.put, List.setIfInBounds_toArray, List.set_cons_zero, List.set_cons_succ]
    go_simp
    exact hK _ _ (Up.refl _) rfl
  · intro x w1 K hU hS hO hd hK
    have h0 : (x 2).v = _ := kval (hd 2 (by decide)).1 rfl
    refine Veil.mk ?_; simp only [kgoal, putsFrom, depsOf, pu0, pu1, pu2, pu3, Nat.zero_add, Nat.reduceAdd, Nat.reduceBEq, Bool.or_false, Bool.false_or, Bool.or_true, Bool.true_or, Bool.false_eq_true, ↓reduceIte, Act.put, List.setIfInBounds_toArray, List.set_cons_zero, List.set_cons_succ]
    simp only [h0]
    go_simp
    refine (work_any _ bu m h _ ⟨_, rfl, (unhide HV).2.1.up hU⟩ (unhide HV).2.2.2).mono ?_
    rintro e w3 ⟨a3, b3, m3, rfl, hw3, u3, c3, l3, s3⟩
    exact hK _ _ u3 ⟨b3, m3, hw3, c3, l3, s3⟩
  · intro x w1 K hU hS hO hd hK
    have h3 : Wkd (.agg #[.bool bu, .slice ao' m cap']) bu m h (x 3).v := kval (hd 3 (by decide)).1 rfl
    obtain ⟨b3, m3, hw3, c3, l3, s3⟩ := h3
    clear hd
    refine Veil.mk ?_; simp only [kgoal, putsFrom, depsOf, pu0, pu1, pu2, pu3, Nat.zero_add, Nat.reduceAdd, Nat.reduceBEq, Bool.or_false, Bool.false_or, Bool.or_true, Bool.true_or, Bool.false_eq_true, ↓reduceIte, Act.put, List.setIfInBounds_toArray, List.set_cons_zero, List.set_cons_succ]
    go_simp
    refine (turned_any _ b3 m3 h _ ((hw3 w ⟨_, rfl, (unhide HV).2.1⟩).up hU) c3.1).mono ?_
    rintro e w4 ⟨a4, b4, rfl, hw4, u4, c4, s4⟩
    exact hK _ _ u4 ⟨b4, m3, fun w0 hn => hw4 w0 (hw3 w0 hn), c4, l3, by rw [s4, s3]⟩
  · intro x w1 K hU hS hO hd hK
    have h1 : Wkd (.agg #[.bool ba, .slice ao n cap]) ba n f (x 1).v := kval (hd 1 (by decide)).1 rfl
    obtain ⟨b1, m1, hw1, -⟩ := h1
    obtain ⟨v1, e1, -⟩ := hw1 w ⟨_, rfl, (unhide HV).1⟩
    have h4 : ∃ b' m', (∀ w0, Nm w0 (.agg #[.bool bu, .slice ao' m cap']) bu m h → Wk w0 (x 4).v b' m' h) ∧ CanZ b' h m' ∧ m' ≤ m ∧ sgn b' (num 4294967296 h m') = -sgn bu (num 4294967296 h m) := kval (hd 4 (by decide)).1 rfl
    obtain ⟨b4, m4, hw4, -⟩ := h4
    obtain ⟨v4, e4, -⟩ := hw4 w ⟨_, rfl, (unhide HV).2.1⟩
    clear hd hw1 hw4
    refine Veil.mk ?_; simp only [kgoal, putsFrom, depsOf, pu0, pu1, pu2, pu3, Nat.zero_add, Nat.reduceAdd, Nat.reduceBEq, Bool.or_false, Bool.false_or, Bool.or_true, Bool.true_or, Bool.false_eq_true, ↓reduceIte, Act.put, List.setIfInBounds_toArray, List.set_cons_zero, List.set_cons_succ]
    simp only [e1, e4]
    go_simp
    exact hK _ _ (up_alloc _ _) ⟨rfl, by show w1.heap.size < (w1.alloc _).heap.size; simp, _, _, _, _, by show [(x 1).v, (x 4).v] = _; rw [e1, e4], heap_alloc_new w1 _⟩
  · intro x w1 K hU hS hO hd hK
    have h1 : Wkd (.agg #[.bool ba, .slice ao n cap]) ba n f (x 1).v := kval (hd 1 (by decide)).1 rfl
    obtain ⟨b1, m1, hw1, c1, l1, s1⟩ := h1
    obtain ⟨v1, e1, sv1⟩ := hw1 w ⟨_, rfl, (unhide HV).1⟩
    have h4 : ∃ b' m', (∀ w0, Nm w0 (.agg #[.bool bu, .slice ao' m cap']) bu m h → Wk w0 (x 4).v b' m' h) ∧ CanZ b' h m' ∧ m' ≤ m ∧ sgn b' (num 4294967296 h m') = -sgn bu (num 4294967296 h m) := kval (hd 4 (by decide)).1 rfl
    obtain ⟨b4, m4, hw4, c4, l4, s4⟩ := h4
    obtain ⟨v4, e4, sv4⟩ := hw4 w ⟨_, rfl, (unhide HV).2.1⟩
    have h5 : (x 5).v = .slice (some ⟨(x 5).lo, 0, none⟩) 2 2 ∧ (x 5).lo < (x 5).hi ∧ ∃ v1 b1 v2 b2, [(x 1).v, (x 4).v] = [Value.agg #[v1, .bool b1], .agg #[v2, .bool b2]] ∧ w1.heap[(x 5).lo]? = some (.cells #[v1, .bool b1, v2, .bool b2] 51 (0, 0)) := kval (hd 5 (by decide)).1 rfl
    obtain ⟨e5, -, p1, p2, p3, p4, q5, h5⟩ := h5
    rw [e1, e4] at q5
    obtain ⟨q5a, q5b⟩ := List.cons.inj q5
    cases q5a
    cases (List.cons.inj q5b).1
    clear hd hw1 hw4 q5 q5b
    refine Veil.mk ?_; simp only [kgoal, putsFrom, depsOf, pu0, pu1, pu2, pu3, Nat.zero_add, Nat.reduceAdd, Nat.reduceBEq, Bool.or_false, Bool.false_or, Bool.or_true, Bool.true_or, Bool.false_eq_true, ↓reduceIte, Act.put, List.setIfInBounds_toArray, List.set_cons_zero, List.set_cons_succ]
    simp only [e5]
    go_simp
    refine (sum2_blk (x 5).lo _ _ b1 b4 m1 m4 M f h 51 _ h5 (sv1.up hU) (sv4.up hU) c1.1.1 c4.1.1 (by omega) (by omega) (by omega)).mono ?_
    rintro e w6 ⟨v6, b6, n6, f6, rfl, o6, u6, c6, l6, s6⟩
    exact hK _ _ u6 ⟨v6, b6, n6, f6, rfl, OwnIn.of o6, c6, l6, by rw [s6, s1, s4, (unhide HXY).1, (unhide HXY).2]; omega⟩
  · intro x w1 K hU hS hO hd hK
    have h6 : ∃ v b n' f', (x 6).v = .agg #[v, .bool b] ∧ OwnIn w1 (x 6).lo (x 6).hi v n' f' ∧ CanZ b f' n' ∧ n' ≤ M + 1 ∧ sgn b (num 4294967296 f' n') = X - Y := kval (hd 6 (by decide)).1 rfl
    obtain ⟨v6, b6, n6, f6, e6, o6, -⟩ := h6
    clear hd
    refine Veil.mk ?_; simp only [kgoal, putsFrom, depsOf, pu0, pu1, pu2, pu3, Nat.zero_add, Nat.reduceAdd, Nat.reduceBEq, Bool.or_false, Bool.false_or, Bool.or_true, Bool.true_or, Bool.false_eq_true, ↓reduceIte, Act.put, List.setIfInBounds_toArray, List.set_cons_zero, List.set_cons_succ]
    simp only [e6]
    go_simp
    refine (answer_any _ b6 n6 f6 _ ⟨_, rfl, o6.sl⟩).mono ?_
    rintro e w7 ⟨a7, rfl, h7, u7⟩
    exact hK _ _ u7 ⟨v6, b6, by show [(x 6).v] = _; rw [e6], h7 _ rfl⟩
  · intro x w1 K hU hS hO hd hK
    have h6 : ∃ v b n' f', (x 6).v = .agg #[v, .bool b] ∧ OwnIn w1 (x 6).lo (x 6).hi v n' f' ∧ CanZ b f' n' ∧ n' ≤ M + 1 ∧ sgn b (num 4294967296 f' n') = X - Y := kval (hd 6 (by decide)).1 rfl
    obtain ⟨v6, b6, n6, f6, e6, o6, -⟩ := h6
    obtain ⟨ao6, cap6, rfl, -⟩ := id o6.sl
    have h7 : ∃ v b, [(x 6).v] = [Value.agg #[v, .bool b]] ∧ (x 7).v = .agg #[.bool b, v] := kval (hd 7 (by decide)).1 rfl
    obtain ⟨v7, b7, e7, es⟩ := h7
    rw [e6] at e7
    cases (List.cons.inj e7).1
    clear o6 e7
    have tt := (hO 8 _ _ rfl rfl (.inl rfl)).trans T2
    obtain ⟨d0, d1, f0, f1, -⟩ := cells2 tt
    clear hd
    refine Veil.mk ?_; simp only [kgoal, putsFrom, depsOf, pu0, pu1, pu2, pu3, Nat.zero_add, Nat.reduceAdd, Nat.reduceBEq, Bool.or_false, Bool.false_or, Bool.or_true, Bool.true_or, Bool.false_eq_true, ↓reduceIte, Act.put, List.setIfInBounds_toArray, List.set_cons_zero, List.set_cons_succ]
    go_simp
    exact hK _ _ (sto_two tt _ _).1 ⟨_, rfl, es, (sto_two tt _ _).2⟩
  · intro x w1 hU hS hR hlo hdis
    have h6 : ∃ v b n' f', (x 6).v = .agg #[v, .bool b] ∧ OwnIn w1 (x 6).lo (x 6).hi v n' f' ∧ CanZ b f' n' ∧ n' ≤ M + 1 ∧ sgn b (num 4294967296 f' n') = X - Y := kval (hR 6 (by decide)) rfl
    obtain ⟨v6, b6, n6, f6, e6, o6, c6, l6, s6⟩ := h6
    obtain ⟨ao6, cap6, rfl, -⟩ := id o6.sl
    have h7 : ∃ v b, [(x 6).v] = [Value.agg #[v, .bool b]] ∧ (x 7).v = .agg #[.bool b, v] := kval (hR 7 (by decide)) rfl
    obtain ⟨v7, b7, e7, es⟩ := h7
    rw [e6] at e7
    cases (List.cons.inj e7).1
    obtain ⟨cs, -, q, tt⟩ := kold (hR 8 (by decide)) rfl
    rw [es] at q
    cases q
    have z6 := (hlo 6 (by decide)).1
    simp at z6
    have OQ := o6.1.mono (show w.heap.size ≤ _ from by omega)
    obtain ⟨d0, d1, -⟩ := cells2 tt
    refine Veil.mk ?_; simp only [kgoal, putsFrom, depsOf, pu0, pu1, pu2, pu3, Nat.zero_add, Nat.reduceAdd, Nat.reduceBEq, Bool.or_false, Bool.false_or, Bool.or_true, Bool.true_or, Bool.false_eq_true, ↓reduceIte, Act.put, List.setIfInBounds_toArray, List.set_cons_zero, List.set_cons_succ]
    clear hR hlo hdis hS tt o6 e7
    go_wp2_with fail
    refine bodyPost_ret (by simp [results, Tryd.results28, go_sem, d0, d1]; rfl) rfl ?_
    exact ⟨_, b6, n6, f6, rfl, ⟨_, rfl, OQ⟩, hU, c6, l6, s6⟩

end Go.Proofs.YtjbocfhmfidjjaaDoor
