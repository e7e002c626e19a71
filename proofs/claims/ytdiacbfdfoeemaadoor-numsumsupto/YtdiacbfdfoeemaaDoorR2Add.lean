/-
  What is proved here: the document's own sum of any numbers (chapter 2), by values.
-/
import Derived.Test.YtdiacbfdfoeemaaDoorR2Con
namespace Go.Proofs.YtdiacbfdfoeemaaDoor
open Go Go.RowKit

theorem Own.turnE {w w' : World} {base g : Nat} {v : Value} {n : Nat} {f : Nat → Nat} {cs : Array Value} {E : TypeId} (h : Own .u32 64 w base v n f) (t : Turn g w w') (hg : w.heap[g]? = some (.cells cs E (0, 0))) (hE : E ≠ 64) : Own .u32 64 w' base v n f := by
  rcases h with ⟨rfl, rfl⟩ | ⟨g', cap, rfl, a1, a2, a3⟩
  · exact .inl ⟨rfl, rfl⟩
  · have a3' := a3
    obtain ⟨cur, hc, -⟩ := a3'
    refine .inr ⟨g', cap, rfl, a1, a2, a3.block (t.block g' (fun e => ?_))⟩
    subst e
    rw [hg] at hc
    cases hc
    exact hE rfl
/-- 0, as Go lays it. -/
theorem zero_in (w : World) (lo M : Nat) : NumIn 0 M w lo w.heap.size (.agg #[.bool false, .slice none 0 0]) :=
  ⟨false, 0, fun _ => 0, ⟨_, rfl, OwnIn.of (.inl ⟨rfl, rfl⟩)⟩, ⟨⟨fun i hi => by omega, .inl rfl⟩, fun h => by cases h⟩, by omega, by simp [sgn, num]⟩

set_option linter.unusedSimpArgs false in
set_option maxRecDepth 4000 in
set_option maxHeartbeats 4000000 in
theorem r2add_any (mo : Option Addr) (k cap M : Nat) (vs : Nat → Value) (bs : Nat → Bool) (Xs : Nat → Int) (w : World) (hr : RdN w mo k vs bs) (hs : ∀ j, j < k → RdD (Xs j) M w (.agg #[.bool (bs j), vs j])) (hM : 2 * (M + k) + 5 ≤ 10000000000) :
    Calls Tryd.prog 19 #[.slice mo k cap] w fun e w' => ∃ v, e = .returned v ∧ NumIn (sumZ Xs k) (M + k) w' w.heap.size w'.heap.size v ∧ Up w w' := by
  have K2 := two_blocks w (.cells #[.bool false, .slice none 0 0] 26) (.cells #[.bool false, .slice none 0 0] 26)
  have U0 := (up_alloc w (.cells #[.bool false, .slice none 0 0] 26)).tr (up_alloc _ (.cells #[.bool false, .slice none 0 0] 26))
  have HS := hide hs
  clear hs
  have ne2 : w.heap.size ≠ w.heap.size + 1 := by omega
  go_enter Tryd.func19, Tryd.ntmps19
  go_wp2_with fail
  go_loopw [4] (fun t4 wr => ∃ (j : Nat) (b : Bool) (v : Value), j ≤ k ∧ t4 = .int .i64 j ∧ wr.heap[w.heap.size + 1]? = some (.cells #[.bool b, v] 26 (0, 0)) ∧ wr.heap[w.heap.size]? = some (.cells #[.bool false, .slice none 0 0] 26 (0, 0)) ∧ Up w wr ∧ Hid (NumIn (sumZ Xs j) (M + j) wr w.heap.size wr.heap.size (.agg #[.bool b, v]))) (fun t4 _ => k - (intOf t4).toNat)
  case atStart => exact ⟨0, false, .slice none 0 0, Nat.zero_le _, rfl, K2.2, K2.1, U0, hide (zero_in _ _ _)⟩
  case round =>
    obtain ⟨j, b, v, hj, rfl, T3, T2, u, HN⟩ := hrel
    obtain ⟨b', ao, n, cp, ev⟩ := ((unhide HN).rd (Nat.le_refl _)).agg
    cases ev
    clear K2 U0
    by_cases hjk : j < k
    · rcases hr with hr | ⟨bl, off, rfl, hc⟩
      · omega
      have HSJ := hide (unhide HS j hjk)
      have hx0 := (hc j hjk).1
      have hx1 := (hc j hjk).2
      obtain ⟨bj, aoj, nj, capj, ej⟩ := (unhide HSJ).agg
      have ej' : bs j = bj ∧ vs j = .slice aoj nj capj := by
        cases hvs : vs j
        all_goals simp_all
      rw [ej'.1, ej'.2] at HSJ
      rw [ej'.1] at hx0
      rw [ej'.2] at hx1
      have hbl : bl < w.heap.size := World.block_lt_of_cell? w _ hx0
      clear hc ej ej'
      go_wp2_with fail
      refine wp_region_knd (by kernel_rfl) w u [[], [], [], [1, 2], [3], [0, 4], [5, 0]] [.val [] (fun _ g _ => g.v = .agg #[.bool b, .slice ao n cp]), .val [] (fun _ g _ => g.v = .slice (some ⟨bl, off, none⟩) k cap), .val [] (fun _ g _ => g.v = .int .i64 (j : Int)), .val [] (fun _ g _ => g.v = .pointer (some ⟨bl, off + j * 2, none⟩)), .val [] (fun _ g _ => g.v = .agg #[.bool bj, .slice aoj nj capj]), .val [] (fun w g _ => NumIn (sumZ Xs j + Xs j) (M + j + 1) w g.lo g.hi g.v), .old (w.heap.size + 1) 5 26 2] (by kernel_rfl) (by kernel_rfl) rfl ⟨trivial, trivial, trivial, trivial, trivial, trivial, ⟨by omega, (Array.getElem?_eq_some_iff.1 T3).1, by simp [oldG]⟩, trivial⟩ ⟨fun _ _ _ _ _ h => h, fun _ _ _ _ _ h => h, fun _ _ _ _ _ h => h, fun _ _ _ _ _ h => h, fun _ _ _ _ _ h => h, fun _ _ _ _ hb h => h.keep hb, trivial, trivial⟩ ⟨?_, ?_, ?_, ?_, ?_, ?_, ?_, trivial⟩ ?_
      · intro x w1 K hU hS hO hd hK
        obtain ⟨c0, c1, -⟩ := cells2 ((hO 6 _ _ rfl rfl (.inr (by decide))).trans T3)
        refine Veil.mk ?_; simp only [kgoal, putsFrom, depsOf, pu0, pu1, pu2, pu3, Nat.zero_add, Nat.reduceAdd, Nat.reduceBEq, Bool.or_false, Bool.false_or, Bool.or_true, Bool.true_or, Bool.false_eq_true, ↓reduceIte, Act.put, List.setIfInBounds_toArray, List.set_cons_zero, List.set_cons_succ]
        go_simp
        exact hK _ _ (Up.refl _) rfl
      · intro x w1 K hU hS hO hd hK
        refine Veil.mk ?_; simp only [kgoal, putsFrom, depsOf, pu0, pu1, pu2, pu3, Nat.zero_add, Nat.reduceAdd, Nat.reduceBEq, Bool.or_false, Bool.false_or, Bool.or_true, Bool.true_or, Bool.false_eq_true, ↓reduceIte, Act.put, List.setIfInBounds_toArray, List.set_cons_zero, List.set_cons_succ]
        go_simp
        exact hK _ _ (Up.refl _) rfl
      · intro x w1 K hU hS hO hd hK
        refine Veil.mk ?_; simp only [kgoal, putsFrom, depsOf, pu0, pu1, pu2, pu3, Nat.zero_add, Nat.reduceAdd, Nat.reduceBEq, Bool.or_false, Bool.false_or, Bool.or_true, Bool.true_or, Bool.false_eq_true, ↓reduceIte, Act.put, List.setIfInBounds_toArray, List.set_cons_zero, List.set_cons_succ]
        go_simp
        exact hK _ _ (Up.refl _) rfl
      · intro x w1 K hU hS hO hd hK
        have h1 : (x 1).v = _ := kval (hd 1 (by decide)).1 rfl
        have h2 : (x 2).v = _ := kval (hd 2 (by decide)).1 rfl
        clear hd
        refine Veil.mk ?_; simp only [kgoal, putsFrom, depsOf, pu0, pu1, pu2, pu3, Nat.zero_add, Nat.reduceAdd, Nat.reduceBEq, Bool.or_false, Bool.false_or, Bool.or_true, Bool.true_or, Bool.false_eq_true, ↓reduceIte, Act.put, List.setIfInBounds_toArray, List.set_cons_zero, List.set_cons_succ]
        simp only [h1, h2]
        go_simp
        exact hK _ _ (Up.refl _) rfl
      · intro x w1 K hU hS hO hd hK
        have h3 : (x 3).v = _ := kval (hd 3 (by decide)).1 rfl
        have y0 := (Below.cell hU (p := ⟨bl, off + j * 2, none⟩) hbl).trans hx0
        have y1 := (Below.cell hU (p := ⟨bl, off + j * 2 + 1, none⟩) hbl).trans hx1
        clear hd
        refine Veil.mk ?_; simp only [kgoal, putsFrom, depsOf, pu0, pu1, pu2, pu3, Nat.zero_add, Nat.reduceAdd, Nat.reduceBEq, Bool.or_false, Bool.false_or, Bool.or_true, Bool.true_or, Bool.false_eq_true, ↓reduceIte, Act.put, List.setIfInBounds_toArray, List.set_cons_zero, List.set_cons_succ]
        simp only [h3]
        go_simp
        exact hK _ _ (Up.refl _) rfl
      · intro x w1 K hU hS hO hd hK
        have h0 : (x 0).v = _ := kval (hd 0 (by decide)).1 rfl
        have h4 : (x 4).v = _ := kval (hd 4 (by decide)).1 rfl
        clear hd
        refine Veil.mk ?_; simp only [kgoal, putsFrom, depsOf, pu0, pu1, pu2, pu3, Nat.zero_add, Nat.reduceAdd, Nat.reduceBEq, Bool.or_false, Bool.false_or, Bool.or_true, Bool.true_or, Bool.false_eq_true, ↓reduceIte, Act.put, List.setIfInBounds_toArray, List.set_cons_zero, List.set_cons_succ]
        simp only [h0, h4]
        go_simp
        obtain ⟨b', n', f', ⟨v', e', o'⟩, c', l', s'⟩ := unhide HN
        refine (r2plus_rd (M := M + j) ⟨b', n', f', ⟨v', e', ((o'.1.up (up_drew _)).since hS ⟨trivial, trivial, trivial, trivial, trivial, trivial, ⟨_, _, T3, by decide⟩, trivial⟩).sl⟩, c'.1.1, l', s'⟩ (((unhide HSJ).up hU).wide (by omega)) (by omega)).mono ?_
        rintro e w2 ⟨v2, rfl, n2, u2⟩
        exact hK _ _ u2 n2
      · intro x w1 K hU hS hO hd hK
        have h8 : NumIn _ _ _ _ _ _ := kval (hd 5 (by decide)).1 rfl
        obtain ⟨b8, n8, f8, ⟨v8, es, o8⟩, -⟩ := h8
        obtain ⟨ao8, cap8, rfl, -⟩ := id o8.sl
        have tt := (hO 6 _ _ rfl rfl (.inl rfl)).trans T3
        obtain ⟨d0, d1, f0, f1, -⟩ := cells2 tt
        clear hd
        refine Veil.mk ?_; simp only [kgoal, putsFrom, depsOf, pu0, pu1, pu2, pu3, Nat.zero_add, Nat.reduceAdd, Nat.reduceBEq, Bool.or_false, Bool.false_or, Bool.or_true, Bool.true_or, Bool.false_eq_true, ↓reduceIte, Act.put, List.setIfInBounds_toArray, List.set_cons_zero, List.set_cons_succ]
        go_simp
        exact hK _ _ (sto_two tt _ _).1 ⟨_, rfl, es, (sto_two tt _ _).2⟩
      intro x w1 hU hS hR hlo hdis
      have h5 : NumIn _ _ _ _ _ _ := kval (hR 5 (by decide)) rfl
      have lo5 := hlo 5 (by decide)
      obtain ⟨cs6, -, q6, t6⟩ := kold (hR 6 (by decide)) rfl
      obtain ⟨b5, n5, f5, ⟨v5, e5, o5⟩, c5, l5, s5⟩ := h5
      rw [e5] at q6
      cases q6
      have T2' := hS.at T2 ⟨trivial, trivial, trivial, trivial, trivial, trivial, ne2, trivial⟩
      refine Veil.mk ?_; simp only [kgoal, putsFrom, depsOf, pu0, pu1, pu2, pu3, Nat.zero_add, Nat.reduceAdd, Nat.reduceBEq, Bool.or_false, Bool.false_or, Bool.or_true, Bool.true_or, Bool.false_eq_true, ↓reduceIte, Act.put, List.setIfInBounds_toArray, List.set_cons_zero, List.set_cons_succ]
      clear hR hdis hS
      go_wp2_with fail
      go_roundw
      case rel => exact ⟨j + 1, b5, v5, by omega, by go_num, t6, T2', hU, hide ⟨b5, n5, f5, ⟨_, rfl, o5.wide (by have := u.size; omega) lo5.2.2⟩, c5, by omega, by rw [s5]; rfl⟩⟩
      case measure => simp [intOf]; omega

    · obtain rfl : j = k := by omega
      obtain ⟨d0, d1, -⟩ := cells2 T3
      obtain ⟨d2, d3, f2, f3, -⟩ := cells2 T2
      obtain ⟨tt, x2⟩ := sto_two T2 (.bool b) (.slice ao n cp)
      obtain ⟨y0, y1, -⟩ := cells2 x2
      have UF := tt.up u (Nat.le_refl _)
      have hsz := tt.size
      go_wp2_with fail
      refine bodyPost_ret (by simp [results, Tryd.results19, go_sem, y0, y1]; rfl) rfl ?_
      refine ⟨_, rfl, ?_, UF⟩
      obtain ⟨b', n', f', ⟨v', e', o'⟩, c', l', s'⟩ := unhide HN
      exact ⟨b', n', f', ⟨v', e', OwnIn.of (o'.1.turnE tt T2 (by decide))⟩, c', l', s'⟩

theorem r2add2_rd {g : Nat} {b1 b2 : Bool} {v1 v2 : Value} {E : TypeId} {X Y : Int} {M : Nat} {w : World} (hg : w.heap[g]? = some (.cells #[.bool b1, v1, .bool b2, v2] E (0, 0))) (h : RdD X M w (.agg #[.bool b1, v1])) (k : RdD Y M w (.agg #[.bool b2, v2])) (hM : 2 * (M + 2) + 5 ≤ 10000000000) :
    Calls Tryd.prog 19 #[.slice (some ⟨g, 0, none⟩) 2 2] w fun e w' => ∃ v, e = .returned v ∧ NumIn (X + Y) (M + 2) w' w.heap.size w'.heap.size v ∧ Up w w' := by
  refine (r2add_any _ 2 2 M (pair v1 v2) (pair b1 b2) (pair X Y) w (rdn_blk hg) (fun j hj => ?_) hM).mono ?_
  · match j, hj with
    | 0, _ => exact h
    | 1, _ => exact k
  · rintro e w' ⟨v, rfl, n, u⟩
    have e : sumZ (pair X Y) 2 = X + Y := by simp [sumZ, pair]
    rw [e] at n
    exact ⟨v, rfl, n, u⟩

end Go.Proofs.YtdiacbfdfoeemaaDoor
