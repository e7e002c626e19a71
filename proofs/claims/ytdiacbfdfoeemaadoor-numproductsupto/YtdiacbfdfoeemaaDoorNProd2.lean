/-
  What is proved here: num.product of any numbers, none and one too; num.Mul.
-/
import Derived.Test.YtdiacbfdfoeemaaDoorNLists
import Derived.Test.YtdiacbfdfoeemaaDoorNMul
namespace Go.Proofs.YtdiacbfdfoeemaaDoor
open Go Go.RowKit

def lenV : Value → Nat
  | .slice _ n _ => n
  | _ => 0
/-- Lists that lay there before, or in blocks of the call's own that are not the row's. -/
def LO (w wr : World) (base : Nat) (row : Value) (L : Nat) (vs : Nat → Value) (ns : Nat → Nat) (fs : Nat → Nat → Nat) : Prop :=
  ∀ i, i < L → (Sl .u32 w (vs i) (ns i) (fs i) ∨ (Own .u32 64 wr base (vs i) (ns i) (fs i) ∧ ∀ g, (vs i).ownBlock = some g → row.ownBlock ≠ some g)) ∧ (∀ q, q < ns i → fs i q < 4294967296)
theorem LO.sl {w wr : World} {base L : Nat} {row : Value} {vs : Nat → Value} {ns : Nat → Nat} {fs : Nat → Nat → Nat} (h : LO w wr base row L vs ns fs) (u : Up w wr) : ∀ i, i < L → Sl .u32 wr (vs i) (ns i) (fs i) := by
  intro i hi
  rcases (h i hi).1 with h1 | ⟨h1, -⟩
  · exact h1.up u
  · exact h1.sl
theorem LO.since {w wr w1 : World} {base L : Nat} {row : Value} {vs : Nat → Value} {ns : Nat → Nat} {fs : Nat → Nat → Nat} {ks : List Knd} (h : LO w wr base row L vs ns fs) (u : Up w w1) (hS : Since wr.drew ks w1) (ho : OldTyped wr.drew 64 ks) : ∀ i, i < L → Sl .u32 w1 (vs i) (ns i) (fs i) := by
  intro i hi
  rcases (h i hi).1 with h1 | ⟨h1, -⟩
  · exact h1.up u
  · exact ((h1.up (up_drew _)).since hS ho).sl
theorem LO.push {w W W2 w4 : World} {base N L n : Nat} {row row' v : Value} {f : Nat → Nat} {vs : Nat → Value} {ns : Nat → Nat} {fs : Nat → Nat → Nat} (h : LO w W base row L vs ns fs) (hb : base ≤ W.heap.size) (uW : Up W W2) (ho : Own .u32 64 W2 W.heap.size v n f) (hd : ∀ q, q < n → f q < 4294967296) (hg : W2.grownBy w4 row.ownBlock)
    (hrow : ∀ g, row.ownBlock = some g → g < W.heap.size) (hat : row'.ownBlock = row.ownBlock ∨ row'.ownBlock = some N) (hN : N = W2.heap.size) : LO w w4 base row' (L + 1) (updA vs L v) (updA ns L n) (updA fs L f) := by
  subst hN
  have s1 := Below.size uW
  intro i hi
  by_cases e : i = L
  · subst e
    rw [updA_same, updA_same, updA_same]
    have hlt := ho.blk_lt
    refine ⟨.inr ⟨(ho.keptN hg (fun g h1 h2 => ?_)).mono hb, fun g h1 h2 => ?_⟩, hd⟩
    · have := hlt g h1
      have := hrow g h2
      omega
    · have h3 := hlt g h1
      rcases hat with e | e
      · have := hrow g (e ▸ h2)
        omega
      · rw [e] at h2
        cases h2
        omega
  · rw [updA_other e, updA_other e, updA_other e]
    obtain ⟨h0, hd'⟩ := h i (by omega)
    refine ⟨?_, hd'⟩
    rcases h0 with h1 | ⟨h1, h2⟩
    · exact .inl h1
    · have hlt := h1.blk_lt
      refine .inr ⟨(h1.up uW).keptN hg (fun g h3 h4 => h2 g h3 h4), fun g h3 h4 => ?_⟩
      have h5 := hlt g h3
      rcases hat with e | e
      · exact h2 g h3 (e ▸ h4)
      · rw [e] at h4
        cases h4
        omega
theorem own_lit1 (w : World) : Own .u32 64 (w.alloc (.cells #[.int .u32 1] 64)) w.heap.size (.slice (some ⟨w.heap.size, 0, none⟩) 1 1) 1 (fun _ => 1) := by
  refine .inr ⟨w.heap.size, 1, rfl, Nat.le_refl _, by omega, ?_⟩
  exact ⟨_, heap_alloc_new w _, rfl, by omega, fun i hi => by obtain rfl : i = 0 := (by omega); rfl⟩
theorem prodN_congr' {F G : Nat → Nat} {k : Nat} (h : ∀ i, i < k → F i = G i) : prodN F k = prodN G k := by
  induction k with
  | zero => rfl
  | succ k ih =>
    show prodN F k * F k = prodN G k * G k
    rw [ih (fun i hi => h i (by omega)), h k (by omega)]
theorem prodN_push (ns : Nat → Nat) (fs : Nat → Nat → Nat) (L n : Nat) (f : Nat → Nat) : prodN (fun i => num 4294967296 (updA fs L f i) (updA ns L n i)) (L + 1) = prodN (fun i => num 4294967296 (fs i) (ns i)) L * num 4294967296 f n := by
  show prodN _ L * num 4294967296 (updA fs L f L) (updA ns L n L) = _
  rw [updA_same, updA_same, prodN_congr' (G := fun i => num 4294967296 (fs i) (ns i)) (fun i hi => by rw [updA_other (by omega), updA_other (by omega)])]
theorem sumN_push (ns : Nat → Nat) (L n : Nat) : sumN (updA ns L n) (L + 1) = sumN ns L + n := by
  show sumN (updA ns L n) L + updA ns L n L = _
  have e : ∀ k, k ≤ L → sumN (updA ns L n) k = sumN ns k := by
    intro k hk
    induction k with
    | zero => rfl
    | succ k ih =>
      show sumN (updA ns L n) k + updA ns L n k = sumN ns k + ns k
      rw [ih (by omega), updA_other (by omega)]
  rw [updA_same, e L (Nat.le_refl _)]

set_option linter.unusedSimpArgs false in
set_option maxRecDepth 4000 in
set_option maxHeartbeats 4000000 in
theorem zproduct_any (mo : Option Addr) (k capm M : Nat) (vs : Nat → Value) (bs : Nat → Bool) (ns : Nat → Nat) (fs : Nat → Nat → Nat) (w : World) (hm : RdW w mo k vs bs) (hl : Lsts w M k vs ns fs) (hcap : k ≤ capm) (hM : 4 * (sumN ns k + 2) ≤ 281474976710656) (hk : 24 * k ≤ 140737488355328) :
    Calls Tryd.prog 52 #[.slice mo k capm] w fun e w' => ProdEnd (prodZ (fun i => sgn (bs i) (num 4294967296 (fs i) (ns i))) k) (sumN ns k + 2) w e w' := by
  obtain ⟨i, hi, hz0, hz1, hz2⟩ := info_parts infoS
  have HL := hide hl
  clear hl
  go_enter Tryd.func52, Tryd.ntmps52
  go_wp2_with fail
  go_loopw [3, 4, 9] (fun t3 t4 t9 wr => ∃ (j : Nat), j ≤ k ∧ t9 = .int .i64 j ∧ t3 = .bool (xorB bs j) ∧ wr.ownsRow (w.heap.size + 1) 24 1 t4 j (valsOf vs j) ∧ Up (w.alloc (.cells #[.slice none 0 0, .bool false] 51)) wr) (fun _ _ t9 _ => k - (intOf t9).toNat)
  case atStart => exact ⟨0, Nat.zero_le _, rfl, rfl, World.ownsRow_nil _ _ _ _, Up.refl _⟩
  case round =>
    obtain ⟨j, hj, rfl, rfl, row, up⟩ := hrel
    have hsz := Below.size up
    simp at hsz
    by_cases hjk : j < k
    · rcases hm with hm | ⟨b, off, rfl, hc⟩
      · omega
      obtain ⟨sj, dj, nj⟩ := unhide HL j hjk
      obtain ⟨aoj, capj, ej, -⟩ := id sj
      have hx0 := (hc j hjk).1
      have hx1 := (hc j hjk).2
      have hbl : b < w.heap.size := World.block_lt_of_cell? w _ hx0
      have hpush := valsOf_succ vs j
      rw [ej] at hx0 hpush
      have hc0 : wr.cell? ⟨b, off + j * 2, none⟩ = some (.slice aoj (ns j) capj) := (Below.cell up (p := ⟨b, off + j * 2, none⟩) (by show b < _; simp; omega)).trans ((Below.cell (up_alloc w _) (p := ⟨b, off + j * 2, none⟩) hbl).trans hx0)
      have hc1 : wr.cell? ⟨b, off + j * 2 + 1, none⟩ = some (.bool (bs j)) := (Below.cell up (p := ⟨b, off + j * 2 + 1, none⟩) (by show b < _; simp; omega)).trans ((Below.cell (up_alloc w _) (p := ⟨b, off + j * 2 + 1, none⟩) hbl).trans hx1)
      have HP := hide hpush
      clear hc hx0 hx1 ej sj dj nj hpush
      have HX := hide (show xorB bs (j + 1) = (xorB bs j != bs j) from rfl)
      generalize ns j = n at *
      generalize bs j = bj at *
      generalize xorB bs j = xj at *
      go_wp2_with (at_builtin; refine wpList_append_own_at _ rfl _ _ 83 rfl (w.heap.size + 1) 24 i (.slice none 0 0) 1 24 Tryd.underlying83 hi hz0 hz1 hz2 rfl (by decide) _ _ _ rfl ((row.alloc _).alloc _) ⟨wr.heap.size + 1, 0, none⟩ 1 1 [.slice aoj n capj] rfl rfl (cells_at _ _ (by simp)) (one_slice _ _ _) (by unfold maxLen; omega) (by omega) (by simp; omega) ?_; intro v4 w4 hown4 hgrow4 hx4 hat4)
      rw [unhide HP] at hown4
      have up4 : Up (w.alloc (.cells #[.slice none 0 0, .bool false] 51)) w4 := (Below.alloc (Below.alloc up (Below.size up) _) (by have := Below.size up; simp at this ⊢; omega) _).grown hgrow4 (by simp; omega) (fun g hg => by have := (row.lt g hg).1; simp; omega)
      clear hgrow4 hx4 hat4 row up
      go_roundw
      case rel => exact ⟨j + 1, by omega, by go_num, by rw [unhide HX]; first | rfl | simp, hown4, up4⟩
      case measure => simp [intOf]; omega
    · obtain rfl : j = k := by omega
      clear hm
      have HX := hide (prodZ_eq bs (fun i => num 4294967296 (fs i) (ns i)) j)
      obtain ⟨xk, hxk⟩ : ∃ xk, xk = xorB bs j := ⟨_, rfl⟩
      rw [← hxk] at HX
      simp only [← hxk]
      clear hxk
      go_wp2_with fail
      go_loopw [4] (fun t4 wr => ∃ (L : Nat) (vs' : Nat → Value) (ns' : Nat → Nat) (fs' : Nat → Nat → Nat), (∃ ao c, t4 = .slice ao L c) ∧ wr.ownsRow (w.heap.size + 1) 24 1 t4 L (valsOf vs' L) ∧ Up (w.alloc (.cells #[.slice none 0 0, .bool false] 51)) wr ∧ (L ≤ 2 ∨ L = j) ∧ j ≤ L ∧ Hid (LO w wr (w.heap.size + 1) t4 L vs' ns' fs' ∧ prodN (fun i => num 4294967296 (fs' i) (ns' i)) L = prodN (fun i => num 4294967296 (fs i) (ns i)) j ∧ sumN ns' L + j ≤ sumN ns j + L)) (fun t4 _ => 2 - lenV t4)
      case atStart =>
        obtain ⟨mo4, cap4, rfl, -⟩ := Rds.of_row row
        exact ⟨j, vs, ns, fs, ⟨_, _, rfl⟩, row, up, .inr rfl, Nat.le_refl _, hide ⟨fun i hi => ⟨.inl (unhide HL i hi).1, (unhide HL i hi).2.1⟩, rfl, Nat.le_refl _⟩⟩
      case round =>
        clear row up hsz
        obtain ⟨L, vs', ns', fs', ⟨aoL, cap4, rfl⟩, row, up, hL2, hjL, HLO⟩ := hrel
        have hsz := Below.size up
        simp at hsz
        by_cases hlt : L < 2
        · have hLi : ((L : Nat) : Int) < 2 := by omega
          go_wp2_with (at_builtin; refine wpList_append_own_at _ rfl _ _ 83 rfl (w.heap.size + 1) 24 i (.slice none 0 0) 1 24 Tryd.underlying83 hi hz0 hz1 hz2 rfl (by decide) _ _ _ rfl ((row.alloc _).alloc _) ⟨wr.heap.size + 1, 0, none⟩ 1 1 [.slice (some ⟨wr.heap.size, 0, none⟩) 1 1] rfl rfl (cells_at _ _ (by simp)) (one_slice _ _ _) (by unfold maxLen; omega) (by omega) (by simp; omega) ?_; intro v4 w4 hown4 hgrow4 hx4 hat4)
          rw [valsOf_push] at hown4
          have up4 : Up (w.alloc (.cells #[.slice none 0 0, .bool false] 51)) w4 := (Below.alloc (Below.alloc up (Below.size up) _) (by have := Below.size up; simp at this ⊢; omega) _).grown hgrow4 (by simp; omega) (fun g hg => by have := (row.lt g hg).1; simp; omega)
          have HL4 := hide (LO.push (unhide HLO).1 hsz ((up_alloc wr _).tr (up_alloc _ _)) ((own_lit1 wr).up (up_alloc _ _)) (fun i hi => by decide) hgrow4 (fun g hg => (row.lt g hg).2) hat4 rfl)
          obtain ⟨mo5, cap5, rfl, -⟩ := Rds.of_row hown4
          clear hgrow4 hx4 hat4 row up
          go_roundw
          case rel =>
            refine ⟨L + 1, _, _, _, ⟨_, _, rfl⟩, hown4, up4, .inl (by omega), by omega, hide ⟨unhide HL4, ?_, ?_⟩⟩
            · rw [prodN_push, (unhide HLO).2.1]
              simp [num]
            · rw [sumN_push]
              have := (unhide HLO).2.2
              omega
          case measure => simp [lenV]; omega
        · have hupw : Up w wr := (up_alloc w _).tr up
          obtain ⟨mo4, cap5, e4, hmo4, hr4⟩ := Rds.of_row row
          cases e4
          rcases id hr4 with h | ⟨g4, off4, rfl, hc4⟩
          · omega
          obtain ⟨r, rfl⟩ : ∃ r, L = 2 + r := ⟨L - 2, by omega⟩
          have HV := hide (fun i hi => LO.sl (unhide HLO).1 hupw i hi)
          have s0 := unhide HV 0 (by omega)
          have s1 := unhide HV 1 (by omega)
          obtain ⟨ao0, cap0, e0', -⟩ := id s0
          obtain ⟨ao1, cap1, e1', -⟩ := id s1
          have y0 := hc4 0 (by omega)
          have y1 := hc4 1 (by omega)
          rw [Nat.add_zero] at y0
          rw [e0'] at y0 s0
          rw [e1'] at y1 s1
          have hle4 : 2 + r ≤ cap4 := by
            rcases row.2 with ⟨h, _⟩ | ⟨g, cap, cur, h, _, _, h3, _⟩
            · cases h
            · cases h
              exact h3
          have T2 := Up.blk up (heap_alloc_new w (.cells #[.slice none 0 0, .bool false] 51))
          have hg4w : w.heap.size + 1 ≤ g4 := by
            rcases row.2 with ⟨h, _⟩ | ⟨g, cap, cur, h, h1, _⟩
            · cases h
            · cases h
              exact h1
          have hg4 : g4 < wr.drew.heap.size := World.block_lt_of_cell? wr _ y0
          have hg4n : g4 ≠ w.heap.size := by omega
          obtain ⟨ta, hta⟩ : ∃ ta, ta = (if cap4 = 2 then some (⟨g4, off4, none⟩ : Addr) else some ⟨g4, off4 + 2, none⟩) := ⟨_, rfl⟩
          have HTA := hide hta
          have HTN := hide (show ta = none → cap4 - 2 = 0 from fun e => by rw [hta] at e; split at e <;> cases e)
          have hsum : sumN ns' (2 + r) = ns' 0 + ns' 1 + sumN (fun i => ns' (2 + i)) r := sumN_two _ _ _ _ r rfl rfl (fun i => rfl)
          have hprod := prodN_two _ _ _ (fun i => num 4294967296 (fs' i) (ns' i)) r rfl rfl (fun i => rfl)
          have HSP := hide (And.intro hsum hprod)
          have HE := hide (And.intro e0' e1')
          have HC4 := hide hc4
          clear hr4 hc4 hsum hprod s0 s1 e0' e1' row hta up HV
          generalize hm0 : ns' 0 = m0 at *
          generalize hm1 : ns' 1 = m1 at *
          have HM := hide (And.intro hm0 hm1)
          clear hm0 hm1
          have i0 : (0 : Int) < 2 + (r : Int) := by omega
          have i1 : (1 : Int) < 2 + (r : Int) := by omega
          have i2 : (2 : Int) ≤ 2 + (r : Int) := by omega
          have i3 : (2 : Int) + (r : Int) ≤ (cap4 : Int) := by omega
          have i4 : ¬ ((2 : Int) + (r : Int) < 2) := by omega
          go_wp2_with fail
          refine wp_region_knd (by kernel_rfl) w hupw [[], [0], [1], [], [3], [4], [], [6], [2, 5, 7], [], [8, 9], [10]] [.val [] (fun _ g _ => g.v = .slice (some ⟨g4, off4, none⟩) (2 + r) cap4), .val [] (fun _ g _ => g.v = .pointer (some ⟨g4, off4, none⟩)), .val [] (fun _ g _ => g.v = .slice ao0 m0 cap0), .val [] (fun _ g _ => g.v = .slice (some ⟨g4, off4, none⟩) (2 + r) cap4), .val [] (fun _ g _ => g.v = .pointer (some ⟨g4, off4 + 1, none⟩)), .val [] (fun _ g _ => g.v = .slice ao1 m1 cap1), .val [] (fun _ g _ => g.v = .slice (some ⟨g4, off4, none⟩) (2 + r) cap4), .val [] (fun _ g _ => g.v = .slice ta r (cap4 - 2)), .val [] (fun w g _ => ∃ n f, OwnIn w g.lo g.hi g.v n f ∧ Can 4294967296 f n ∧ n ≤ sumN ns' (2 + r) ∧ num 4294967296 f n = prodN (fun i => num 4294967296 (fs' i) (ns' i)) (2 + r)), .val [] (fun _ g _ => g.v = .bool (xk)), .val [8] (fun _ g vs' => ∃ ao n c, vs' = [Value.slice ao n c] ∧ g.v = .agg #[.slice ao n c, .bool (xk && !decide (n = 0))]), .old (w.heap.size) 10 51 2] (by kernel_rfl) (by kernel_rfl) rfl ⟨trivial, trivial, trivial, trivial, trivial, trivial, trivial, trivial, trivial, trivial, trivial, ⟨Nat.le_refl _, (Array.getElem?_eq_some_iff.1 T2).1, by simp [oldG]⟩, trivial⟩ ⟨fun _ _ _ _ _ h => h, fun _ _ _ _ _ h => h, fun _ _ _ _ _ h => h, fun _ _ _ _ _ h => h, fun _ _ _ _ _ h => h, fun _ _ _ _ _ h => h, fun _ _ _ _ _ h => h, fun _ _ _ _ _ h => h, (fun _ _ _ _ hb h => by obtain ⟨n, f, h1, h2⟩ := h; exact ⟨n, f, h1.keep hb, h2⟩), fun _ _ _ _ _ h => h, fun _ _ _ _ _ h => h, trivial, trivial⟩ ⟨?_, ?_, ?_, ?_, ?_, ?_, ?_, ?_, ?_, ?_, ?_, ?_, trivial⟩ ?_
          · intro x w1 K hU hS hO hd hK
            clear hd
            refine Veil.mk ?_; simp only [kgoal, putsFrom, depsOf, pu0, pu1, pu2, pu3, Nat.zero_add, Nat.reduceAdd, Nat.reduceBEq, Bool.or_false, Bool.false_or, Bool.or_true, Bool.true_or, Bool.false_eq_true, ↓reduceIte, Act.put, List.setIfInBounds_toArray, List.set_cons_zero, List.set_cons_succ]
            go_simp
            exact hK _ _ (Up.refl _) rfl
          · intro x w1 K hU hS hO hd hK
            have c0 : (x 0).v = _ := kval (hd 0 (by decide)).1 rfl
            clear hd
            refine Veil.mk ?_; simp only [kgoal, putsFrom, depsOf, pu0, pu1, pu2, pu3, Nat.zero_add, Nat.reduceAdd, Nat.reduceBEq, Bool.or_false, Bool.false_or, Bool.or_true, Bool.true_or, Bool.false_eq_true, ↓reduceIte, Act.put, List.setIfInBounds_toArray, List.set_cons_zero, List.set_cons_succ]
            simp only [c0]
            go_simp
            exact hK _ _ (Up.refl _) rfl
          · intro x w1 K hU hS hO hd hK
            have h0 : (x 1).v = _ := kval (hd 1 (by decide)).1 rfl
            have c0 := (hS.cell (o := off4) hg4 ⟨trivial, trivial, trivial, trivial, trivial, trivial, trivial, trivial, trivial, trivial, trivial, hg4n, trivial⟩).trans y0
            clear hd
            refine Veil.mk ?_; simp only [kgoal, putsFrom, depsOf, pu0, pu1, pu2, pu3, Nat.zero_add, Nat.reduceAdd, Nat.reduceBEq, Bool.or_false, Bool.false_or, Bool.or_true, Bool.true_or, Bool.false_eq_true, ↓reduceIte, Act.put, List.setIfInBounds_toArray, List.set_cons_zero, List.set_cons_succ]
            simp only [h0]
            go_simp
            exact hK _ _ (Up.refl _) rfl
          · intro x w1 K hU hS hO hd hK
            clear hd
            refine Veil.mk ?_; simp only [kgoal, putsFrom, depsOf, pu0, pu1, pu2, pu3, Nat.zero_add, Nat.reduceAdd, Nat.reduceBEq, Bool.or_false, Bool.false_or, Bool.or_true, Bool.true_or, Bool.false_eq_true, ↓reduceIte, Act.put, List.setIfInBounds_toArray, List.set_cons_zero, List.set_cons_succ]
            go_simp
            exact hK _ _ (Up.refl _) rfl
          · intro x w1 K hU hS hO hd hK
            have c3 : (x 3).v = _ := kval (hd 3 (by decide)).1 rfl
            clear hd
            refine Veil.mk ?_; simp only [kgoal, putsFrom, depsOf, pu0, pu1, pu2, pu3, Nat.zero_add, Nat.reduceAdd, Nat.reduceBEq, Bool.or_false, Bool.false_or, Bool.or_true, Bool.true_or, Bool.false_eq_true, ↓reduceIte, Act.put, List.setIfInBounds_toArray, List.set_cons_zero, List.set_cons_succ]
            simp only [c3]
            go_simp
            exact hK _ _ (Up.refl _) rfl
          · intro x w1 K hU hS hO hd hK
            have h0 : (x 4).v = _ := kval (hd 4 (by decide)).1 rfl
            have c0 := (hS.cell (o := off4 + 1) hg4 ⟨trivial, trivial, trivial, trivial, trivial, trivial, trivial, trivial, trivial, trivial, trivial, hg4n, trivial⟩).trans y1
            clear hd
            refine Veil.mk ?_; simp only [kgoal, putsFrom, depsOf, pu0, pu1, pu2, pu3, Nat.zero_add, Nat.reduceAdd, Nat.reduceBEq, Bool.or_false, Bool.false_or, Bool.or_true, Bool.true_or, Bool.false_eq_true, ↓reduceIte, Act.put, List.setIfInBounds_toArray, List.set_cons_zero, List.set_cons_succ]
            simp only [h0]
            go_simp
            exact hK _ _ (Up.refl _) rfl
          · intro x w1 K hU hS hO hd hK
            clear hd
            refine Veil.mk ?_; simp only [kgoal, putsFrom, depsOf, pu0, pu1, pu2, pu3, Nat.zero_add, Nat.reduceAdd, Nat.reduceBEq, Bool.or_false, Bool.false_or, Bool.or_true, Bool.true_or, Bool.false_eq_true, ↓reduceIte, Act.put, List.setIfInBounds_toArray, List.set_cons_zero, List.set_cons_succ]
            go_simp
            exact hK _ _ (Up.refl _) rfl
          · intro x w1 K hU hS hO hd hK
            have h0 : (x 6).v = _ := kval (hd 6 (by decide)).1 rfl
            clear hd
            refine Veil.mk ?_; simp only [kgoal, putsFrom, depsOf, pu0, pu1, pu2, pu3, Nat.zero_add, Nat.reduceAdd, Nat.reduceBEq, Bool.or_false, Bool.false_or, Bool.or_true, Bool.true_or, Bool.false_eq_true, ↓reduceIte, Act.put, List.setIfInBounds_toArray, List.set_cons_zero, List.set_cons_succ]
            simp only [h0]
            go_simp
            refine hK _ _ (Up.refl _) ?_
            show _ = Value.slice ta r (cap4 - 2)
            rw [unhide HTA]
            first | rfl | (split <;> rfl) | (simp [gotOf]; done)
          · intro x w1 K hU hS hO hd hK
            have c2 : (x 2).v = _ := kval (hd 2 (by decide)).1 rfl
            have c5 : (x 5).v = _ := kval (hd 5 (by decide)).1 rfl
            have c7 : (x 7).v = _ := kval (hd 7 (by decide)).1 rfl
            have hc1 : ∀ i, i < 2 + r → w1.cell? ⟨g4, off4 + i, none⟩ = some (vs' i) := fun i hi => (hS.cell (o := off4 + i) hg4 ⟨trivial, trivial, trivial, trivial, trivial, trivial, trivial, trivial, trivial, trivial, trivial, hg4n, trivial⟩).trans (unhide HC4 i hi)
            have hrt : Rds w1 ta r (fun i => vs' (2 + i)) := by
              rw [unhide HTA]
              by_cases h2 : cap4 = 2
              · exact .inl (by omega)
              · rw [if_neg h2]
                exact .inr ⟨g4, off4 + 2, rfl, fun i hi => by rw [Nat.add_assoc]; exact hc1 (2 + i) (by omega)⟩
            have HSL : ∀ i, i < 2 + r → Sl .u32 w1 (vs' i) (ns' i) (fs' i) := LO.since (unhide HLO).1 hU hS ⟨trivial, trivial, trivial, trivial, trivial, trivial, trivial, trivial, trivial, trivial, trivial, ⟨_, _, T2, by decide⟩, trivial⟩
            have t0 : Sl .u32 w1 (.slice ao0 m0 cap0) m0 (fs' 0) := by
              have h := HSL 0 (by omega)
              rw [(unhide HE).1, (unhide HM).1] at h
              exact h
            have t1 : Sl .u32 w1 (.slice ao1 m1 cap1) m1 (fs' 1) := by
              have h := HSL 1 (by omega)
              rw [(unhide HE).2, (unhide HM).2] at h
              exact h
            have d0 : ∀ i, i < m0 → fs' 0 i < 4294967296 := by
              have h := ((unhide HLO).1 0 (by omega)).2
              rw [(unhide HM).1] at h
              exact h
            have d1 : ∀ i, i < m1 → fs' 1 i < 4294967296 := by
              have h := ((unhide HLO).1 1 (by omega)).2
              rw [(unhide HM).2] at h
              exact h
            clear hd
            refine Veil.mk ?_; simp only [kgoal, putsFrom, depsOf, pu0, pu1, pu2, pu3, Nat.zero_add, Nat.reduceAdd, Nat.reduceBEq, Bool.or_false, Bool.false_or, Bool.or_true, Bool.true_or, Bool.false_eq_true, ↓reduceIte, Act.put, List.setIfInBounds_toArray, List.set_cons_zero, List.set_cons_succ]
            simp only [c2, c5, c7]
            go_simp
            refine (mul_any _ _ m0 m1 r (cap4 - 2) (fs' 0) (fs' 1) ta (fun i => vs' (2 + i)) (fun i => ns' (2 + i)) (fun i => fs' (2 + i)) _ t0 t1 hrt (unhide HTN) (fun i hi => HSL (2 + i) (by omega)) d0 d1 (fun i hi => ((unhide HLO).1 (2 + i) (by omega)).2) (by rw [← (unhide HSP).1]; have := (unhide HLO).2.2; omega) (by omega)).mono ?_
            rintro e w2 ⟨v2, n2, f2, rfl, o2, u2, c2', l2, s2⟩
            exact hK _ _ u2 ⟨n2, f2, OwnIn.of o2, c2', by rw [(unhide HSP).1]; exact l2, by rw [s2, (unhide HSP).2]⟩
          · intro x w1 K hU hS hO hd hK
            clear hd
            refine Veil.mk ?_; simp only [kgoal, putsFrom, depsOf, pu0, pu1, pu2, pu3, Nat.zero_add, Nat.reduceAdd, Nat.reduceBEq, Bool.or_false, Bool.false_or, Bool.or_true, Bool.true_or, Bool.false_eq_true, ↓reduceIte, Act.put, List.setIfInBounds_toArray, List.set_cons_zero, List.set_cons_succ]
            go_simp
            exact hK _ _ (Up.refl _) rfl
          · intro x w1 K hU hS hO hd hK
            have h8 : ∃ n f, OwnIn w1 (x 8).lo (x 8).hi (x 8).v n f ∧ Can 4294967296 f n ∧ n ≤ sumN ns' (2 + r) ∧ num 4294967296 f n = prodN (fun i => num 4294967296 (fs' i) (ns' i)) (2 + r) := kval (hd 8 (by decide)).1 rfl
            obtain ⟨n8, f8, o8, c8, -⟩ := h8
            obtain ⟨ao8, cap8, e8, -⟩ := id o8.sl
            have c9 : (x 9).v = _ := kval (hd 9 (by decide)).1 rfl
            rw [e8] at o8
            obtain ⟨r1, r2, r3⟩ := o8.sl.rd
            clear hd
            refine Veil.mk ?_; simp only [kgoal, putsFrom, depsOf, pu0, pu1, pu2, pu3, Nat.zero_add, Nat.reduceAdd, Nat.reduceBEq, Bool.or_false, Bool.false_or, Bool.or_true, Bool.true_or, Bool.false_eq_true, ↓reduceIte, Act.put, List.setIfInBounds_toArray, List.set_cons_zero, List.set_cons_succ]
            simp only [c9, e8]
            go_simp
            refine (numberOf_any ao8 n8 cap8 f8 (xk) _ r1 r2 r3).mono ?_
            rintro e w2 ⟨m2, hm2, rfl, u2, z2, t2⟩
            obtain rfl : m2 = n8 := by
              rcases Nat.lt_or_ge m2 n8 with hl | hl
              · exact absurd (z2 (n8 - 1) (by omega) (by omega)) (by rcases c8.2 with h | h; omega; exact h)
              · omega
            exact hK _ _ u2 ⟨ao8, m2, cap8, by show [(x 8).v] = _; rw [e8], rfl⟩
          · intro x w1 K hU hS hO hd hK
            have h10 : ∃ ao n c, [(x 8).v] = [Value.slice ao n c] ∧ (x 10).v = .agg #[.slice ao n c, .bool (xk && !decide (n = 0))] := kval (hd 10 (by decide)).1 rfl
            obtain ⟨ao10, n10, c10, -, es⟩ := h10
            have tt := (hO 11 _ _ rfl rfl (.inl rfl)).trans T2
            obtain ⟨d0, d1, f0, f1, -⟩ := cells2 tt
            clear hd
            refine Veil.mk ?_; simp only [kgoal, putsFrom, depsOf, pu0, pu1, pu2, pu3, Nat.zero_add, Nat.reduceAdd, Nat.reduceBEq, Bool.or_false, Bool.false_or, Bool.or_true, Bool.true_or, Bool.false_eq_true, ↓reduceIte, Act.put, List.setIfInBounds_toArray, List.set_cons_zero, List.set_cons_succ]
            go_simp
            exact hK _ _ (sto_two tt _ _).1 ⟨_, rfl, es, (sto_two tt _ _).2⟩
          · intro x w1 hU hS hR hlo hdis
            have h8 : ∃ n f, OwnIn w1 (x 8).lo (x 8).hi (x 8).v n f ∧ Can 4294967296 f n ∧ n ≤ sumN ns' (2 + r) ∧ num 4294967296 f n = prodN (fun i => num 4294967296 (fs' i) (ns' i)) (2 + r) := kval (hR 8 (by decide)) rfl
            obtain ⟨n8, f8, o8, c8, l8, s8⟩ := h8
            have h10 : ∃ ao n c, [(x 8).v] = [Value.slice ao n c] ∧ (x 10).v = .agg #[.slice ao n c, .bool (xk && !decide (n = 0))] := kval (hR 10 (by decide)) rfl
            obtain ⟨ao10, n10, c10, e8, es⟩ := h10
            obtain ⟨ao8, cap8, e8', -⟩ := id o8.sl
            have e8'' := (List.cons.inj e8).1
            rw [e8'] at e8''
            cases e8''
            rw [e8'] at o8
            obtain ⟨cs, -, q, tt⟩ := kold (hR 11 (by decide)) rfl
            rw [es] at q
            cases q
            have z8 := (hlo 8 (by decide)).1
            obtain ⟨d0, d1, -⟩ := cells2 tt
            have OQ : Own .u32 64 w1 w.heap.size _ n8 f8 := o8.1.mono (by omega)
            refine Veil.mk ?_; simp only [kgoal, putsFrom, depsOf, pu0, pu1, pu2, pu3, Nat.zero_add, Nat.reduceAdd, Nat.reduceBEq, Bool.or_false, Bool.false_or, Bool.or_true, Bool.true_or, Bool.false_eq_true, ↓reduceIte, Act.put, List.setIfInBounds_toArray, List.set_cons_zero, List.set_cons_succ]
            clear hR hlo hdis hS o8 tt
            go_wp2_with fail
            refine bodyPost_ret (by simp [results, Tryd.results52, go_sem, d0, d1]; rfl) rfl ?_
            exact ⟨_, _, n8, f8, rfl, ⟨_, rfl, OQ⟩, hU, CanZ.of c8, by have := (unhide HLO).2.2; omega, by rw [sgn_cut, s8, (unhide HLO).2.1]; exact unhide HX⟩


set_option maxRecDepth 4000 in
set_option maxHeartbeats 1000000 in
theorem zmul_any (mo : Option Addr) (k capm M : Nat) (vs : Nat → Value) (bs : Nat → Bool) (ns : Nat → Nat) (fs : Nat → Nat → Nat) (w : World) (hm : RdN w mo k vs bs) (hl : Lsts w M k vs ns fs) (hM : 4 * (sumN ns k + 2) ≤ 281474976710656) (hk : 32 * k ≤ 140737488355328) :
    Calls Tryd.prog 21 #[.slice mo k capm] w fun e w' => NumEnd (prodZ (fun i => sgn (bs i) (num 4294967296 (fs i) (ns i))) k) (sumN ns k + 2) w e w' := by
  have hm' : RdN (w.alloc (.cells #[.bool false, .slice none 0 0] 26)) mo k vs bs := by
    rcases hm with h | ⟨b, off, rfl, hc⟩
    · exact .inl h
    · by_cases h0 : k = 0
      · exact .inl h0
      · have hb : b < w.heap.size := World.block_lt_of_cell? w _ (hc 0 (by omega)).1
        exact .inr ⟨b, off, rfl, fun i hi => ⟨(Below.cell (up_alloc w _) (p := ⟨b, off + i * 2, none⟩) hb).trans (hc i hi).1, (Below.cell (up_alloc w _) (p := ⟨b, off + i * 2 + 1, none⟩) hb).trans (hc i hi).2⟩⟩
  have HL := hide hl
  clear hl hm
  go_enter Tryd.func21, Tryd.ntmps21
  go_wp2_with fail
  refine (workAll_any mo k capm M vs bs ns fs _ hm' ((unhide HL).up (up_alloc w _)) (by omega)).mono ?_
  rintro e w1 ⟨mo1, cap1, vs1, bs1, ms1, rfl, hcap1, rw1, l1, u1, hs1⟩
  have HS1 := hide hs1
  have hle : sumN ms1 k ≤ sumN ns k := sumN_le (fun i hi => (hs1 i hi).2.1)
  clear hs1 hm'
  go_wp2_with fail
  refine (zproduct_any mo1 k cap1 M vs1 bs1 ms1 fs _ rw1 (l1.up u1) hcap1 (by omega) (by omega)).mono ?_
  rintro e w2 HP
  obtain ⟨a2, b2, n2, f2, rfl, o2, u2, c2, l2, s2⟩ := HP
  have HS2 := hide s2
  clear s2
  obtain ⟨v2, rfl, o2⟩ := o2
  obtain ⟨ao2, cap2, rfl, -⟩ := id o2.sl
  go_wp2_with fail
  refine (answer_any _ b2 n2 f2 _ ⟨_, rfl, o2.sl⟩).mono ?_
  rintro e w3 ⟨a3, rfl, h3, u3⟩
  obtain rfl := h3 _ rfl
  obtain ⟨d0, d1, g0, g1, lt, e0, e1⟩ := res2 w.heap.size rfl ((u1.tr u2).tr u3)
  have hz : w.heap.size < w1.heap.size := by have := Below.size u1; simp at this; omega
  go_wp2_with fail
  refine bodyPost_ret (by simp [results, Tryd.results21, go_sem, e0, e1]; rfl) rfl ?_
  refine ⟨_, b2, n2, f2, rfl, ⟨_, rfl, ((o2.up u3).set2 hz).mono (by omega)⟩, Up.set2 ((up_alloc w _).tr ((u1.tr u2).tr u3)) (Nat.le_refl _), c2, by omega, ?_⟩
  rw [unhide HS2]
  exact prodZ_congr (fun i hi => (unhide HS1 i hi).2.2)

/-- Two numbers, side by side in a block. -/

theorem muln_rd (mo : Option Addr) (k cap M : Nat) (vs : Nat → Value) (bs : Nat → Bool) (Xs : Nat → Int) (w : World) (hr : RdN w mo k vs bs) (hs : ∀ j, j < k → RdD (Xs j) M w (.agg #[.bool (bs j), vs j])) (hM : M ≤ 1048576) (hk : k ≤ 1048576) :
    Calls Tryd.prog 21 #[.slice mo k cap] w fun e w' => ∃ v, e = .returned v ∧ RdC (prodZ Xs k) 1099511627778 w' v ∧ Up w w' := by
  obtain ⟨ns, fs, hl, hx⟩ := lsts_rd hs
  have hsum : ∀ j, j ≤ k → sumN ns j ≤ j * 1048576 := by
    intro j hj
    induction j with
    | zero => simp [sumN]
    | succ j ih =>
      have h1 := ih (by omega)
      have h2 := (hl j (by omega)).2.2
      show sumN ns j + ns j ≤ _
      omega
  have h9 := hsum k (Nat.le_refl _)
  have h8 : sumN ns k ≤ 1099511627776 := by omega
  refine (zmul_any mo k cap M vs bs ns fs w hr hl (by omega) (by omega)).mono ?_
  rintro e w' H
  obtain ⟨a, b, n, f, rfl, o, u, c, l, s⟩ := H
  exact ⟨a, rfl, ⟨b, n, f, o.nm, c, by omega, by rw [s]; exact prodZ_congr hx⟩, u⟩

end Go.Proofs.YtdiacbfdfoeemaaDoor
