/-
  What is proved here: num.product: the product of two and more numbers with their signs.
-/
import Derived.Test.YtjbocfhmfidjjaaDoorNReg
import Derived.Test.YtjbocfhmfidjjaaDoorMul
namespace Go.Proofs.YtjbocfhmfidjjaaDoor
open Go Go.RowKit

theorem Since.cell {wb w : World} {ks : List Knd} (h : Since wb ks w) {b o : Nat} (hb : b < wb.heap.size) (hn : NotOld b ks) : w.cell? ⟨b, o, none⟩ = wb.cell? ⟨b, o, none⟩ :=
  World.cell?_of_block (a := ⟨b, o, none⟩) (h.rest b hb hn.get)
/-- How num.product ends. -/
def ProdEnd (X : Int) (S : Nat) (w : World) (e : Ending) (w' : World) : Prop := ∃ a b n f, e = .returned a ∧ OwnW w' w.heap.size a b n f ∧ Up w w' ∧ CanZ b f n ∧ n ≤ S ∧ sgn b (num 4294967296 f n) = X

def xorB (bs : Nat → Bool) : Nat → Bool
  | 0 => false
  | k + 1 => xorB bs k != bs k
def prodZ (g : Nat → Int) : Nat → Int
  | 0 => 1
  | k + 1 => prodZ g k * g k
theorem sgn_mul (a b : Bool) (x y : Nat) : sgn (a != b) (x * y) = sgn a x * sgn b y := by
  cases a <;> cases b <;> simp [sgn, Int.neg_mul, Int.mul_neg]
theorem prodZ_eq (bs : Nat → Bool) (F : Nat → Nat) (k : Nat) : sgn (xorB bs k) (prodN F k) = prodZ (fun i => sgn (bs i) (F i)) k := by
  induction k with
  | zero => rfl
  | succ k ih =>
    show sgn (xorB bs k != bs k) (prodN F k * F k) = prodZ _ k * _
    rw [sgn_mul, ih]
theorem valsOf_succ (vs : Nat → Value) (k : Nat) : valsOf vs k ++ [vs k] = valsOf vs (k + 1) := by
  unfold valsOf
  rw [List.range_succ, List.map_append]
  rfl

set_option linter.unusedSimpArgs false in
set_option maxRecDepth 4000 in
set_option maxHeartbeats 4000000 in
theorem product_two (mo : Option Addr) (k capm M : Nat) (vs : Nat → Value) (bs : Nat → Bool) (ns : Nat → Nat) (fs : Nat → Nat → Nat) (w : World) (hm : RdW w mo k vs bs) (hl : Lsts w M k vs ns fs) (hk2 : 2 ≤ k) (hcap : k ≤ capm) (hM : 4 * (sumN ns k) ≤ 281474976710656) (hk : 24 * k ≤ 140737488355328) :
    Calls Tryd.prog 52 #[.slice mo k capm] w fun e w' => ProdEnd (prodZ (fun i => sgn (bs i) (num 4294967296 (fs i) (ns i))) k) (sumN ns k) w e w' := by
  obtain ⟨i, hi, hz0, hz1, hz2⟩ := info_parts infoS
  have HL := hide hl
  clear hl
  go_enter Tryd.func52, Tryd.ntmps52
  go_wp2_with fail
  go_loopw [3, 4, 9] (fun t3 t4 t9 wr => ∃ (j : Nat), j ≤ k ∧ t9 = .int .i64 j ∧ t3 = .bool (xorB bs j) ∧ wr.ownsRow (w.heap.size + 1) 24 1 t4 j (valsOf vs j) ∧ Up (w.alloc (.cells #[.slice none 0 0, .bool false] 51)) wr) (fun _ _ t9 _ => k - (intOf t9).toNat)
  case atStart => exact ⟨0, Nat.zero_le _, rfl, rfl, World.ownsRow_nil _ _ _ _, Up.refl _⟩
  case round =>
    obtain ⟨j, hj, rfl, rfl, row, up⟩ := hrel
    have hsz := Below.size up
    simp at hsz
    by_cases hjk : j < k
    · rcases hm with hm | ⟨b, off, rfl, hc⟩
      · omega
      obtain ⟨sj, dj, nj⟩ := unhide HL j hjk
      obtain ⟨aoj, capj, ej, -⟩ := id sj
      have hx0 := (hc j hjk).1
      have hx1 := (hc j hjk).2
      have hbl : b < w.heap.size := World.block_lt_of_cell? w _ hx0
      have hpush := valsOf_succ vs j
      rw [ej] at hx0 hpush
      have hc0 : wr.cell? ⟨b, off + j * 2, none⟩ = some (.slice aoj (ns j) capj) := (Below.cell up (p := ⟨b, off + j * 2, none⟩) (by show b < _; simp; omega)).trans ((Below.cell (up_alloc w _) (p := ⟨b, off + j * 2, none⟩) hbl).trans hx0)
      have hc1 : wr.cell? ⟨b, off + j * 2 + 1, none⟩ = some (.bool (bs j)) := (Below.cell up (p := ⟨b, off + j * 2 + 1, none⟩) (by show b < _; simp; omega)).trans ((Below.cell (up_alloc w _) (p := ⟨b, off + j * 2 + 1, none⟩) hbl).trans hx1)
      have HP := hide hpush
      clear hc hx0 hx1 ej sj dj nj hpush
      have HX := hide (show xorB bs (j + 1) = (xorB bs j != bs j) from rfl)
      generalize ns j = n at *
      generalize bs j = bj at *
      generalize xorB bs j = xj at *
      go_wp2_with (at_builtin; refine wpList_append_own_at _ rfl _ _ 83 rfl (w.heap.size + 1) 24 i (.slice none 0 0) 1 24 Tryd.underlying83 hi hz0 hz1 hz2 rfl (by decide) _ _ _ rfl ((row.alloc _).alloc _) ⟨wr.heap.size + 1, 0, none⟩ 1 1 [.slice aoj n capj] rfl rfl (cells_at _ _ (by simp)) (one_slice _ _ _) (by unfold maxLen; omega) (by omega) (by simp; omega) ?_; intro v4 w4 hown4 hgrow4 hx4 hat4)
      rw [unhide HP] at hown4
      have up4 : Up (w.alloc (.cells #[.slice none 0 0, .bool false] 51)) w4 := (Below.alloc (Below.alloc up (Below.size up) _) (by have := Below.size up; simp at this ⊢; omega) _).grown hgrow4 (by simp; omega) (fun g hg => by have := (row.lt g hg).1; simp; omega)
      clear hgrow4 hx4 hat4 row up
      go_roundw
      case rel => exact ⟨j + 1, by omega, by go_num, by rw [unhide HX]; first | rfl | simp, hown4, up4⟩
      case measure => simp [intOf]; omega
    · obtain rfl : j = k := by omega
      clear hm
      have hupw : Up w wr := (up_alloc w _).tr up
      obtain ⟨mo4, cap4, rfl, hmo4, hr4⟩ := Rds.of_row row
      rcases id hr4 with h | ⟨g4, off4, rfl, hc4⟩
      · omega
      obtain ⟨r, rfl⟩ : ∃ r, j = 2 + r := ⟨j - 2, by omega⟩
      obtain ⟨s0, d0, -⟩ := unhide HL 0 (by omega)
      obtain ⟨s1, d1, -⟩ := unhide HL 1 (by omega)
      obtain ⟨ao0, cap0, e0', -⟩ := id s0
      obtain ⟨ao1, cap1, e1', -⟩ := id s1
      have y0 := hc4 0 (by omega)
      have y1 := hc4 1 (by omega)
      rw [Nat.add_zero] at y0
      rw [e0'] at y0 s0
      rw [e1'] at y1 s1
      have hle4 : 2 + r ≤ cap4 := by
        rcases row.2 with ⟨h, _⟩ | ⟨g, cap, cur, h, _, _, h3, _⟩
        · cases h
        · cases h
          exact h3
      have T2 := Up.blk up (heap_alloc_new w (.cells #[.slice none 0 0, .bool false] 51))
      have hg4w : w.heap.size + 1 ≤ g4 := by
        rcases row.2 with ⟨h, _⟩ | ⟨g, cap, cur, h, h1, _⟩
        · cases h
        · cases h
          exact h1
      have hg4 : g4 < wr.drew.heap.size := World.block_lt_of_cell? wr _ y0
      have hg4n : g4 ≠ w.heap.size := by omega
      obtain ⟨ta, hta⟩ : ∃ ta, ta = (if cap4 = 2 then some (⟨g4, off4, none⟩ : Addr) else some ⟨g4, off4 + 2, none⟩) := ⟨_, rfl⟩
      have HTA := hide hta
      have HTN := hide (show ta = none → cap4 - 2 = 0 from fun e => by rw [hta] at e; split at e <;> cases e)
      have hsum : sumN ns (2 + r) = ns 0 + ns 1 + sumN (fun i => ns (2 + i)) r := sumN_two _ _ _ _ r rfl rfl (fun i => rfl)
      have hprod := prodN_two _ _ _ (fun i => num 4294967296 (fs i) (ns i)) r rfl rfl (fun i => rfl)
      have HSP := hide (And.intro hsum hprod)
      have HS01 := hide (And.intro s0 (And.intro s1 (And.intro d0 d1)))
      have HC4 := hide hc4
      have HX := hide (prodZ_eq bs (fun i => num 4294967296 (fs i) (ns i)) (2 + r))
      clear hr4 hc4 hsum hprod s0 s1 d0 d1 row hta up
      generalize hm0 : ns 0 = m0 at *
      generalize hm1 : ns 1 = m1 at *
      clear hm0 hm1
      have i0 : (0 : Int) < 2 + (r : Int) := by omega
      have i1 : (1 : Int) < 2 + (r : Int) := by omega
      have i2 : (2 : Int) ≤ 2 + (r : Int) := by omega
      have i3 : (2 : Int) + (r : Int) ≤ (cap4 : Int) := by omega
      have i4 : ¬ ((2 : Int) + (r : Int) < 2) := by omega
      go_wp2_with fail
      refine wp_loop_rounds 1 ?_
      rw [rounds_succ]
      go_wp2_with fail
      refine wp_region_knd (by kernel_rfl) w hupw [[], [0], [1], [], [3], [4], [], [6], [2, 5, 7], [], [8, 9], [10]] [.val [] (fun _ g _ => g.v = .slice (some ⟨g4, off4, none⟩) (2 + r) cap4), .val [] (fun _ g _ => g.v = .pointer (some ⟨g4, off4, none⟩)), .val [] (fun _ g _ => g.v = .slice ao0 m0 cap0), .val [] (fun _ g _ => g.v = .slice (some ⟨g4, off4, none⟩) (2 + r) cap4), .val [] (fun _ g _ => g.v = .pointer (some ⟨g4, off4 + 1, none⟩)), .val [] (fun _ g _ => g.v = .slice ao1 m1 cap1), .val [] (fun _ g _ => g.v = .slice (some ⟨g4, off4, none⟩) (2 + r) cap4), .val [] (fun _ g _ => g.v = .slice ta r (cap4 - 2)), .val [] (fun w g _ => ∃ n f, OwnIn w g.lo g.hi g.v n f ∧ Can 4294967296 f n ∧ n ≤ sumN ns (2 + r) ∧ num 4294967296 f n = prodN (fun i => num 4294967296 (fs i) (ns i)) (2 + r)), .val [] (fun _ g _ => g.v = .bool (xorB bs (2 + r))), .val [8] (fun _ g vs => ∃ ao n c, vs = [Value.slice ao n c] ∧ g.v = .agg #[.slice ao n c, .bool (xorB bs (2 + r) && !decide (n = 0))]), .old (w.heap.size) 10 51 2] (by kernel_rfl) (by kernel_rfl) rfl ⟨trivial, trivial, trivial, trivial, trivial, trivial, trivial, trivial, trivial, trivial, trivial, ⟨Nat.le_refl _, (Array.getElem?_eq_some_iff.1 T2).1, by simp [oldG]⟩, trivial⟩ ⟨fun _ _ _ _ _ h => h, fun _ _ _ _ _ h => h, fun _ _ _ _ _ h => h, fun _ _ _ _ _ h => h, fun _ _ _ _ _ h => h, fun _ _ _ _ _ h => h, fun _ _ _ _ _ h => h, fun _ _ _ _ _ h => h, (fun _ _ _ _ hb h => by obtain ⟨n, f, h1, h2⟩ := h; exact ⟨n, f, h1.keep hb, h2⟩), fun _ _ _ _ _ h => h, fun _ _ _ _ _ h => h, trivial, trivial⟩ ⟨?_, ?_, ?_, ?_, ?_, ?_, ?_, ?_, ?_, ?_, ?_, ?_, trivial⟩ ?_
      · intro x w1 K hU hS hO hd hK
        clear hd
        refine Veil.mk ?_; simp only [kgoal, putsFrom, depsOf, pu0, pu1, pu2, pu3, Nat.zero_add, Nat.reduceAdd, Nat.reduceBEq, Bool.or_false, Bool.false_or, Bool.or_true, Bool.true_or, Bool.false_eq_true, ↓reduceIte, Act.put, List.setIfInBounds_toArray, List.set_cons_zero, List.set_cons_succ]
        go_simp
        exact hK _ _ (Up.refl _) rfl
      · intro x w1 K hU hS hO hd hK
        have c0 : (x 0).v = _ := kval (hd 0 (by decide)).1 rfl
        clear hd
        refine Veil.mk ?_; simp only [kgoal, putsFrom, depsOf, pu0, pu1, pu2, pu3, Nat.zero_add, Nat.reduceAdd, Nat.reduceBEq, Bool.or_false, Bool.false_or, Bool.or_true, Bool.true_or, Bool.false_eq_true, ↓reduceIte, Act.put, List.setIfInBounds_toArray, List.set_cons_zero, List.set_cons_succ]
        simp only [c0]
        go_simp
        exact hK _ _ (Up.refl _) rfl
      · intro x w1 K hU hS hO hd hK
        have h0 : (x 1).v = _ := kval (hd 1 (by decide)).1 rfl
        have c0 := (hS.cell (o := off4) hg4 ⟨trivial, trivial, trivial, trivial, trivial, trivial, trivial, trivial, trivial, trivial, trivial, hg4n, trivial⟩).trans y0
        clear hd
        refine Veil.mk ?_; simp only [kgoal, putsFrom, depsOf, pu0, pu1, pu2, pu3, Nat.zero_add, Nat.reduceAdd, Nat.reduceBEq, Bool.or_false, Bool.false_or, Bool.or_true, Bool.true_or, Bool.false_eq_true, ↓reduceIte, Act.put, List.setIfInBounds_toArray, List.set_cons_zero, List.set_cons_succ]
        simp only [h0]
        go_simp
        exact hK _ _ (Up.refl _) rfl
      · intro x w1 K hU hS hO hd hK
        clear hd
        refine Veil.mk ?_; simp only [kgoal, putsFrom, depsOf, pu0, pu1, pu2, pu3, Nat.zero_add, Nat.reduceAdd, Nat.reduceBEq, Bool.or_false, Bool.false_or, Bool.or_true, Bool.true_or, Bool.false_eq_true, ↓reduceIte, Act.put, List.setIfInBounds_toArray, List.set_cons_zero, List.set_cons_succ]
        go_simp
        exact hK _ _ (Up.refl _) rfl
      · intro x w1 K hU hS hO hd hK
        have c3 : (x 3).v = _ := kval (hd 3 (by decide)).1 rfl
        clear hd
        refine Veil.mk ?_; simp only [kgoal, putsFrom, depsOf, pu0, pu1, pu2, pu3, Nat.zero_add, Nat.reduceAdd, Nat.reduceBEq, Bool.or_false, Bool.false_or, Bool.or_true, Bool.true_or, Bool.false_eq_true, ↓reduceIte, Act.put, List.setIfInBounds_toArray, List.set_cons_zero, List.set_cons_succ]
        simp only [c3]
        go_simp
        exact hK _ _ (Up.refl _) rfl
      · intro x w1 K hU hS hO hd hK
        have h0 : (x 4).v = _ := kval (hd 4 (by decide)).1 rfl
        have c0 := (hS.cell (o := off4 + 1) hg4 ⟨trivial, trivial, trivial, trivial, trivial, trivial, trivial, trivial, trivial, trivial, trivial, hg4n, trivial⟩).trans y1
        clear hd
        refine Veil.mk ?_; simp only [kgoal, putsFrom, depsOf, pu0, pu1, pu2, pu3, Nat.zero_add, Nat.reduceAdd, Nat.reduceBEq, Bool.or_false, Bool.false_or, Bool.or_true, Bool.true_or, Bool.false_eq_true, ↓reduceIte, Act.put, List.setIfInBounds_toArray, List.set_cons_zero, List.set_cons_succ]
        simp only [h0]
        go_simp
        exact hK _ _ (Up.refl _) rfl
      · intro x w1 K hU hS hO hd hK
        clear hd
        refine Veil.mk ?_; simp only [kgoal, putsFrom, depsOf, pu0, pu1, pu2, pu3, Nat.zero_add, Nat.reduceAdd, Nat.reduceBEq, Bool.or_false, Bool.false_or, Bool.or_true, Bool.true_or, Bool.false_eq_true, ↓reduceIte, Act.put, List.setIfInBounds_toArray, List.set_cons_zero, List.set_cons_succ]
        go_simp
        exact hK _ _ (Up.refl _) rfl
      · intro x w1 K hU hS hO hd hK
        have h0 : (x 6).v = _ := kval (hd 6 (by decide)).1 rfl
        clear hd
        refine Veil.mk ?_; simp only [kgoal, putsFrom, depsOf, pu0, pu1, pu2, pu3, Nat.zero_add, Nat.reduceAdd, Nat.reduceBEq, Bool.or_false, Bool.false_or, Bool.or_true, Bool.true_or, Bool.false_eq_true, ↓reduceIte, Act.put, List.setIfInBounds_toArray, List.set_cons_zero, List.set_cons_succ]
        simp only [h0]
        go_simp
        refine hK _ _ (Up.refl _) ?_
        show _ = Value.slice ta r (cap4 - 2)
        rw [unhide HTA]
        first | rfl | (split <;> rfl) | (simp [gotOf]; done)
      · intro x w1 K hU hS hO hd hK
        have c2 : (x 2).v = _ := kval (hd 2 (by decide)).1 rfl
        have c5 : (x 5).v = _ := kval (hd 5 (by decide)).1 rfl
        have c7 : (x 7).v = _ := kval (hd 7 (by decide)).1 rfl
        have hc1 : ∀ i, i < 2 + r → w1.cell? ⟨g4, off4 + i, none⟩ = some (vs i) := fun i hi => (hS.cell (o := off4 + i) hg4 ⟨trivial, trivial, trivial, trivial, trivial, trivial, trivial, trivial, trivial, trivial, trivial, hg4n, trivial⟩).trans (unhide HC4 i hi)
        have hrt : Rds w1 ta r (fun i => vs (2 + i)) := by
          rw [unhide HTA]
          by_cases h2 : cap4 = 2
          · exact .inl (by omega)
          · rw [if_neg h2]
            exact .inr ⟨g4, off4 + 2, rfl, fun i hi => by rw [Nat.add_assoc]; exact hc1 (2 + i) (by omega)⟩
        clear hd
        refine Veil.mk ?_; simp only [kgoal, putsFrom, depsOf, pu0, pu1, pu2, pu3, Nat.zero_add, Nat.reduceAdd, Nat.reduceBEq, Bool.or_false, Bool.false_or, Bool.or_true, Bool.true_or, Bool.false_eq_true, ↓reduceIte, Act.put, List.setIfInBounds_toArray, List.set_cons_zero, List.set_cons_succ]
        simp only [c2, c5, c7]
        go_simp
        refine (mul_any _ _ m0 m1 r (cap4 - 2) (fs 0) (fs 1) ta (fun i => vs (2 + i)) (fun i => ns (2 + i)) (fun i => fs (2 + i)) _ ((unhide HS01).1.up hU) ((unhide HS01).2.1.up hU) hrt (unhide HTN) (fun i hi => (unhide HL (2 + i) (by omega)).1.up hU) (unhide HS01).2.2.1 (unhide HS01).2.2.2 (fun i hi => (unhide HL (2 + i) (by omega)).2.1) (by rw [← (unhide HSP).1]; exact hM) (by omega)).mono ?_
        rintro e w2 ⟨v2, n2, f2, rfl, o2, u2, c2', l2, s2⟩
        exact hK _ _ u2 ⟨n2, f2, OwnIn.of o2, c2', by rw [(unhide HSP).1]; exact l2, by rw [s2, (unhide HSP).2]⟩
      · intro x w1 K hU hS hO hd hK
        clear hd
        refine Veil.mk ?_; simp only [kgoal, putsFrom, depsOf, pu0, pu1, pu2, pu3, Nat.zero_add, Nat.reduceAdd, Nat.reduceBEq, Bool.or_false, Bool.false_or, Bool.or_true, Bool.true_or, Bool.false_eq_true, ↓reduceIte, Act.put, List.setIfInBounds_toArray, List.set_cons_zero, List.set_cons_succ]
        go_simp
        exact hK _ _ (Up.refl _) rfl
      · intro x w1 K hU hS hO hd hK
        have h8 : ∃ n f, OwnIn w1 (x 8).lo (x 8).hi (x 8).v n f ∧ Can 4294967296 f n ∧ n ≤ sumN ns (2 + r) ∧ num 4294967296 f n = prodN (fun i => num 4294967296 (fs i) (ns i)) (2 + r) := kval (hd 8 (by decide)).1 rfl
        obtain ⟨n8, f8, o8, c8, -⟩ := h8
        obtain ⟨ao8, cap8, e8, -⟩ := id o8.sl
        have c9 : (x 9).v = _ := kval (hd 9 (by decide)).1 rfl
        rw [e8] at o8
        obtain ⟨r1, r2, r3⟩ := o8.sl.rd
        clear hd
        refine Veil.mk ?_; simp only [kgoal, putsFrom, depsOf, pu0, pu1, pu2, pu3, Nat.zero_add, Nat.reduceAdd, Nat.reduceBEq, Bool.or_false, Bool.false_or, Bool.or_true, Bool.true_or, Bool.false_eq_true, ↓reduceIte, Act.put, List.setIfInBounds_toArray, List.set_cons_zero, List.set_cons_succ]
        simp only [c9, e8]
        go_simp
        refine (numberOf_any ao8 n8 cap8 f8 (xorB bs (2 + r)) _ r1 r2 r3).mono ?_
        rintro e w2 ⟨m2, hm2, rfl, u2, z2, t2⟩
        obtain rfl : m2 = n8 := by
          rcases Nat.lt_or_ge m2 n8 with hl | hl
          · exact absurd (z2 (n8 - 1) (by omega) (by omega)) (by rcases c8.2 with h | h; omega; exact h)
          · omega
        exact hK _ _ u2 ⟨ao8, m2, cap8, by show [(x 8).v] = _; rw [e8], rfl⟩
      · intro x w1 K hU hS hO hd hK
        have h10 : ∃ ao n c, [(x 8).v] = [Value.slice ao n c] ∧ (x 10).v = .agg #[.slice ao n c, .bool (xorB bs (2 + r) && !decide (n = 0))] := kval (hd 10 (by decide)).1 rfl
        obtain ⟨ao10, n10, c10, -, es⟩ := h10
        have tt := (hO 11 _ _ rfl rfl (.inl rfl)).trans T2
        obtain ⟨d0, d1, f0, f1, -⟩ := cells2 tt
        clear hd
        refine Veil.mk ?_; simp only [kgoal, putsFrom, depsOf, pu0, pu1, pu2, pu3, Nat.zero_add, Nat.reduceAdd, Nat.reduceBEq, Bool.or_false, Bool.false_or, Bool.or_true, Bool.true_or, Bool.false_eq_true, ↓reduceIte, Act.put, List.setIfInBounds_toArray, List.set_cons_zero, List.set_cons_succ]
        go_simp
        exact hK _ _ (sto_two tt _ _).1 ⟨_, rfl, es, (sto_two tt _ _).2⟩
      · intro x w1 hU hS hR hlo hdis
        have h8 : ∃ n f, OwnIn w1 (x 8).lo (x 8).hi (x 8).v n f ∧ Can 4294967296 f n ∧ n ≤ sumN ns (2 + r) ∧ num 4294967296 f n = prodN (fun i => num 4294967296 (fs i) (ns i)) (2 + r) := kval (hR 8 (by decide)) rfl
        obtain ⟨n8, f8, o8, c8, l8, s8⟩ := h8
        have h10 : ∃ ao n c, [(x 8).v] = [Value.slice ao n c] ∧ (x 10).v = .agg #[.slice ao n c, .bool (xorB bs (2 + r) && !decide (n = 0))] := kval (hR 10 (by decide)) rfl
        obtain ⟨ao10, n10, c10, e8, es⟩ := h10
        obtain ⟨ao8, cap8, e8', -⟩ := id o8.sl
        have e8'' := (List.cons.inj e8).1
        rw [e8'] at e8''
        cases e8''
        rw [e8'] at o8
        obtain ⟨cs, -, q, tt⟩ := kold (hR 11 (by decide)) rfl
        rw [es] at q
        cases q
        have z8 := (hlo 8 (by decide)).1
        obtain ⟨d0, d1, -⟩ := cells2 tt
        have OQ : Own .u32 64 w1 w.heap.size _ n8 f8 := o8.1.mono (by omega)
        refine Veil.mk ?_; simp only [kgoal, putsFrom, depsOf, pu0, pu1, pu2, pu3, Nat.zero_add, Nat.reduceAdd, Nat.reduceBEq, Bool.or_false, Bool.false_or, Bool.or_true, Bool.true_or, Bool.false_eq_true, ↓reduceIte, Act.put, List.setIfInBounds_toArray, List.set_cons_zero, List.set_cons_succ]
        clear hR hlo hdis hS o8 tt
        go_wp2_with fail
        refine bodyPost_ret (by simp [results, Tryd.results52, go_sem, d0, d1]; rfl) rfl ?_
        exact ⟨_, _, n8, f8, rfl, ⟨_, rfl, OQ⟩, hU, CanZ.of c8, l8, by rw [sgn_cut, s8]; exact unhide HX⟩

end Go.Proofs.YtjbocfhmfidjjaaDoor
