/-
  What is proved here: num.Cmp tells which of two numbers is less. what the regions of package num share: rows in new memory that lie within the blocks that an operation laid; num.divide by any number.
-/
import Derived.Test.YtjbocfhmfidjjaaDoorNDiv
import Derived.Test.YtjbocfhmfidjjaaDoorRegKnd
import Derived.Test.YtjbocfhmfidjjaaDoorCmp
namespace Go.Proofs.YtjbocfhmfidjjaaDoor
open Go Go.RowKit

/-- What num.work answers. -/
def Wkd (a : Value) (b : Bool) (n : Nat) (f : Nat → Nat) (v : Value) : Prop := ∃ b' m, (∀ w0, Nm w0 a b n f → Wk w0 v b' m f) ∧ CanZ b' f m ∧ m ≤ n ∧ sgn b' (num 4294967296 f m) = sgn b (num 4294967296 f n)

/-- -1, 0 or 1. -/
def cmpZ (x y : Int) : Int := if x < y then -1 else if y < x then 1 else 0
theorem cmpZ_lt {x y : Int} (h : x < y) : cmpZ x y = -1 := by simp [cmpZ, h]
theorem cmpZ_gt {x y : Int} (h : y < x) : cmpZ x y = 1 := by unfold cmpZ; rw [if_neg (by omega), if_pos h]
theorem cmpZ_nat (x y : Nat) : cmpZ (x : Int) (y : Int) = cmpN x y := by
  unfold cmpZ cmpN
  rcases Nat.lt_trichotomy x y with h | h | h <;> simp [h] <;> omega
theorem cmpZ_neg (x y : Nat) : cmpZ (-(x : Int)) (-(y : Int)) = cmpN y x := by
  unfold cmpZ cmpN
  rcases Nat.lt_trichotomy x y with h | h | h <;> simp [h] <;> omega
theorem Wkd.cells {a v : Value} {b : Bool} {n : Nat} {f : Nat → Nat} {w : World} {cs : Array Value} (h : Wkd a b n f v) (ha : Nm w a b n f) (e : v = .agg cs) :
    ∃ ao' m' cap' b', cs = #[.slice ao' m' cap', .bool b'] ∧ Sl .u32 w (.slice ao' m' cap') m' f ∧ CanZ b' f m' ∧ m' ≤ n ∧ sgn b' (num 4294967296 f m') = sgn b (num 4294967296 f n) := by
  obtain ⟨b', m', h1, h2, h3, h4⟩ := h
  obtain ⟨v1, e1, s1⟩ := h1 w ha
  obtain ⟨ao1, cap1, rfl, -⟩ := id s1
  rw [e1] at e
  cases e
  exact ⟨ao1, m', cap1, b', rfl, s1, h2, h3, h4⟩

set_option linter.unusedSimpArgs false in
set_option maxRecDepth 4000 in
set_option maxHeartbeats 1000000 in
theorem cmpz_any (a u : Value) (ba bu : Bool) (n m : Nat) (f h : Nat → Nat) (w : World) (ha : Nm w a ba n f) (hu : Nm w u bu m h) (hf : ∀ i, i < n → f i < 4294967296) (hh : ∀ i, i < m → h i < 4294967296) :
    Calls Tryd.prog 32 #[a, u] w fun e w' => e = .returned (.int .i64 (cmpZ (sgn ba (num 4294967296 f n)) (sgn bu (num 4294967296 h m)))) ∧ Up w w' := by
  obtain ⟨v, rfl, hv⟩ := ha
  obtain ⟨v', rfl, hu⟩ := hu
  obtain ⟨ao, cap, rfl, -⟩ := id hv
  obtain ⟨ao', cap', rfl, -⟩ := id hu
  have K2 := hide (two_blocks w (.cells #[.bool ba, .slice ao n cap] 26) (.cells #[.bool bu, .slice ao' m cap'] 26))
  have U0 := (up_alloc w (.cells #[.bool ba, .slice ao n cap] 26)).tr (up_alloc _ (.cells #[.bool bu, .slice ao' m cap'] 26))
  have HV := hide (And.intro hv (And.intro hu (And.intro hf hh)))
  clear hv hu hf hh
  go_enter Tryd.func32, Tryd.ntmps32
  go_wp2_with fail
  refine wp_region_knd (by kernel_rfl) w U0 [[], [0], [], [2], [], [], [1, 4], [3, 5]] [.val [] (fun _ g _ => g.v = .agg #[.bool ba, .slice ao n cap]), .val [] (fun _ g _ => Wkd (.agg #[.bool ba, .slice ao n cap]) ba n f g.v), .val [] (fun _ g _ => g.v = .agg #[.bool bu, .slice ao' m cap']), .val [] (fun _ g _ => Wkd (.agg #[.bool bu, .slice ao' m cap']) bu m h g.v), .box 51 2, .box 51 2, .sto 4 1 51 2, .sto 5 3 51 2] (by kernel_rfl) (by kernel_rfl) rfl ⟨trivial, trivial, trivial, trivial, trivial, trivial, trivial, trivial, trivial⟩ ⟨fun _ _ _ _ _ h => h, fun _ _ _ _ _ h => h, fun _ _ _ _ _ h => h, fun _ _ _ _ _ h => h, trivial, trivial, trivial, trivial, trivial⟩ ⟨?_, ?_, ?_, ?_, ?_, ?_, ?_, ?_, trivial⟩ ?_
  · intro x w1 K hU hS hO hd hK
    have hG := hS.upb rfl
    obtain ⟨c0, c1, -⟩ := cells2 (Up.blk hG (unhide K2).1)
    refine Veil.mk ?_; simp only [kgoal, putsFrom, depsOf, pu0, pu1, pu2, pu3, Nat.zero_add, Nat.reduceAdd, Nat.reduceBEq, Bool.or_false, Bool.false_or, Bool.or_true, Bool.true_or, Bool.false_eq_true, ↓reduceIte, Act.put, List.setIfInBounds_toArray, List.set_cons_zero, List.set_cons_succ]
    go_simp
    exact hK _ _ (Up.refl _) rfl
  · intro x w1 K hU hS hO hd hK
    have hG := hS.upb rfl
    have h0 : (x 0).v = _ := kval (hd 0 (by decide)).1 rfl
    refine Veil.mk ?_; simp only [kgoal, putsFrom, depsOf, pu0, pu1, pu2, pu3, Nat.zero_add, Nat.reduceAdd, Nat.reduceBEq, Bool.or_false, Bool.false_or, Bool.or_true, Bool.true_or, Bool.false_eq_true, ↓reduceIte, Act.put, List.setIfInBounds_toArray, List.set_cons_zero, List.set_cons_succ]
    go_simp
    refine (work_any _ ba n f _ ⟨_, rfl, (unhide HV).1.up (U0.tr ((up_drew _).tr hG))⟩ (unhide HV).2.2.1).mono ?_
    rintro e w2 ⟨a2, b2, m2, rfl, hw2, u2, c2, l2, s2⟩
    exact hK _ _ u2 ⟨b2, m2, hw2, c2, l2, s2⟩
  · intro x w1 K hU hS hO hd hK
    have hG := hS.upb rfl
    obtain ⟨c0, c1, -⟩ := cells2 (Up.blk hG (unhide K2).2)
    refine Veil.mk ?_; simp only [kgoal, putsFrom, depsOf, pu0, pu1, pu2, pu3, Nat.zero_add, Nat.reduceAdd, Nat.reduceBEq, Bool.or_false, Bool.false_or, Bool.or_true, Bool.true_or, Bool.false_eq_true, ↓reduceIte, Act.put, List.setIfInBounds_toArray, List.set_cons_zero, List.set_cons_succ]
    go_simp
    exact hK _ _ (Up.refl _) rfl
  · intro x w1 K hU hS hO hd hK
    have hG := hS.upb rfl
    have h0 : (x 2).v = _ := kval (hd 2 (by decide)).1 rfl
    refine Veil.mk ?_; simp only [kgoal, putsFrom, depsOf, pu0, pu1, pu2, pu3, Nat.zero_add, Nat.reduceAdd, Nat.reduceBEq, Bool.or_false, Bool.false_or, Bool.or_true, Bool.true_or, Bool.false_eq_true, ↓reduceIte, Act.put, List.setIfInBounds_toArray, List.set_cons_zero, List.set_cons_succ]
    go_simp
    refine (work_any _ bu m h _ ⟨_, rfl, (unhide HV).2.1.up (U0.tr ((up_drew _).tr hG))⟩ (unhide HV).2.2.2).mono ?_
    rintro e w2 ⟨a2, b2, m2, rfl, hw2, u2, c2, l2, s2⟩
    exact hK _ _ u2 ⟨b2, m2, hw2, c2, l2, s2⟩
  · intro x w1 K hU hS hO hd hK
    have hG := hS.upb rfl
    refine Veil.mk ?_; simp only [kgoal, putsFrom, depsOf, pu0, pu1, pu2, pu3, Nat.zero_add, Nat.reduceAdd, Nat.reduceBEq, Bool.or_false, Bool.false_or, Bool.or_true, Bool.true_or, Bool.false_eq_true, ↓reduceIte, Act.put, List.setIfInBounds_toArray, List.set_cons_zero, List.set_cons_succ]
    go_simp
    exact hK _ _ (up_alloc _ _) (box_new rfl hS)
  · intro x w1 K hU hS hO hd hK
    have hG := hS.upb rfl
    refine Veil.mk ?_; simp only [kgoal, putsFrom, depsOf, pu0, pu1, pu2, pu3, Nat.zero_add, Nat.reduceAdd, Nat.reduceBEq, Bool.or_false, Bool.false_or, Bool.or_true, Bool.true_or, Bool.false_eq_true, ↓reduceIte, Act.put, List.setIfInBounds_toArray, List.set_cons_zero, List.set_cons_succ]
    go_simp
    exact hK _ _ (up_alloc _ _) (box_new rfl hS)
  · intro x w1 K hU hS hO hd hK
    have hG := hS.upb rfl
    obtain ⟨c0, c1, e4, h4⟩ := kbox2 (hd 4 (by decide)).1 rfl
    obtain ⟨b', m', h1, -⟩ := kval (hd 1 (by decide)).1 rfl
    obtain ⟨v1, e1, s1⟩ := h1 w ⟨_, rfl, (unhide HV).1⟩
    obtain ⟨ao1, cap1, rfl, -⟩ := id s1
    obtain ⟨d0, d1, f0, f1, -⟩ := cells2 h4
    clear hd h1 s1
    refine Veil.mk ?_; simp only [kgoal, putsFrom, depsOf, pu0, pu1, pu2, pu3, Nat.zero_add, Nat.reduceAdd, Nat.reduceBEq, Bool.or_false, Bool.false_or, Bool.or_true, Bool.true_or, Bool.false_eq_true, ↓reduceIte, Act.put, List.setIfInBounds_toArray, List.set_cons_zero, List.set_cons_succ]
    go_simp
    exact hK _ _ (sto_two h4 _ _).1 ⟨_, rfl, e1, (sto_two h4 _ _).2⟩
  · intro x w1 K hU hS hO hd hK
    have hG := hS.upb rfl
    obtain ⟨c0, c1, e4, h4⟩ := kbox2 (hd 5 (by decide)).1 rfl
    obtain ⟨b', m', h1, -⟩ := kval (hd 3 (by decide)).1 rfl
    obtain ⟨v1, e1, s1⟩ := h1 w ⟨_, rfl, (unhide HV).2.1⟩
    obtain ⟨ao1, cap1, rfl, -⟩ := id s1
    obtain ⟨d0, d1, f0, f1, -⟩ := cells2 h4
    clear hd h1 s1
    refine Veil.mk ?_; simp only [kgoal, putsFrom, depsOf, pu0, pu1, pu2, pu3, Nat.zero_add, Nat.reduceAdd, Nat.reduceBEq, Bool.or_false, Bool.false_or, Bool.or_true, Bool.true_or, Bool.false_eq_true, ↓reduceIte, Act.put, List.setIfInBounds_toArray, List.set_cons_zero, List.set_cons_succ]
    go_simp
    exact hK _ _ (sto_two h4 _ _).1 ⟨_, rfl, e1, (sto_two h4 _ _).2⟩
  · intro x w1 hU hS hR hlo hdis
    have hG := hS.upb rfl
    obtain ⟨e4, -⟩ := kbox (hR 4 (by decide)) rfl
    obtain ⟨e5, -⟩ := kbox (hR 5 (by decide)) rfl
    obtain ⟨cs1, -, q1, t1⟩ := ksto (hR 6 (by decide)) rfl
    obtain ⟨cs2, -, q2, t2⟩ := ksto (hR 7 (by decide)) rfl
    obtain ⟨ao1, m1, cap1, b1, rfl, s1, c1, l1, z1⟩ := Wkd.cells (kval (hR 1 (by decide)) rfl) ⟨_, rfl, (unhide HV).1⟩ q1
    obtain ⟨ao2, m2, cap2, b2, rfl, s2, c2, l2, z2⟩ := Wkd.cells (kval (hR 3 (by decide)) rfl) ⟨_, rfl, (unhide HV).2.1⟩ q2
    have U1 : Up w w1 := U0.tr ((up_drew _).tr hG)
    refine Veil.mk ?_; simp only [kgoal, putsFrom, depsOf, pu0, pu1, pu2, pu3, Nat.zero_add, Nat.reduceAdd, Nat.reduceBEq, Bool.or_false, Bool.false_or, Bool.or_true, Bool.true_or, Bool.false_eq_true, ↓reduceIte, Act.put, List.setIfInBounds_toArray, List.set_cons_zero, List.set_cons_succ]
    rw [e4, e5]
    generalize (x 4).lo = g4 at *
    generalize (x 5).lo = g5 at *
    generalize (x 0).v = y0 at *
    generalize (x 1).v = y1 at *
    generalize (x 2).v = y2 at *
    generalize (x 3).v = y3 at *
    obtain ⟨d0, d1, -⟩ := cells2 t1
    obtain ⟨d2, d3, -⟩ := cells2 t2
    have HZ := hide (And.intro z1 z2)
    have HS := hide (And.intro (s1.up U1) (And.intro (s2.up U1) (And.intro c1 c2)))
    clear hU hS hR hlo hdis z1 z2 s1 s2 q1 q2 t1 t2 hG c1 c2 HV K2 U0
    cases b1 <;> cases b2
    · go_wp2_with fail
      refine (cmp_any _ _ m1 m2 f h _ (unhide HS).1 (unhide HS).2.1 (unhide HS).2.2.1.1.1 (unhide HS).2.2.2.1.1).mono ?_
      rintro e w2 ⟨rfl, u2⟩
      go_wp2_with fail
      go_ret
      refine ⟨ret_int ?_, U1.tr u2⟩
      rw [← (unhide HZ).1, ← (unhide HZ).2]
      exact (cmpZ_nat _ _).symm
    · go_wp2_with fail
      go_ret
      refine ⟨ret_int ?_, U1⟩
      rw [← (unhide HZ).1, ← (unhide HZ).2]
      have := num_pos (unhide HS).2.2.2.1 ((unhide HS).2.2.2.2 rfl)
      exact (cmpZ_gt (by simp only [sgn]; simp; omega)).symm
    · go_wp2_with fail
      go_ret
      refine ⟨ret_int ?_, U1⟩
      rw [← (unhide HZ).1, ← (unhide HZ).2]
      have := num_pos (unhide HS).2.2.1.1 ((unhide HS).2.2.1.2 rfl)
      exact (cmpZ_lt (by simp only [sgn]; simp; omega)).symm
    · go_wp2_with fail
      refine (cmp_any _ _ m2 m1 h f _ (unhide HS).2.1 (unhide HS).1 (unhide HS).2.2.2.1.1 (unhide HS).2.2.1.1.1).mono ?_
      rintro e w2 ⟨rfl, u2⟩
      go_wp2_with fail
      go_ret
      refine ⟨ret_int ?_, U1.tr u2⟩
      rw [← (unhide HZ).1, ← (unhide HZ).2]
      exact (cmpZ_neg _ _).symm

/-- A row of the call's own that lies in blocks from lo on, below hi. -/
def OwnIn (w : World) (lo hi : Nat) (v : Value) (n : Nat) (f : Nat → Nat) : Prop := Own .u32 64 w lo v n f ∧ ∀ g o l c, v = .slice (some ⟨g, o, none⟩) l c → g < hi
theorem OwnIn.of {w : World} {lo : Nat} {v : Value} {n : Nat} {f : Nat → Nat} (h : Own .u32 64 w lo v n f) : OwnIn w lo w.heap.size v n f := by
  refine ⟨h, fun g o l c e => ?_⟩
  rcases h with ⟨rfl, -⟩ | ⟨g', cap, rfl, -, -, h3⟩
  · cases e
  · cases e
    obtain ⟨cur, hb, -⟩ := h3
    exact (Array.getElem?_eq_some_iff.1 hb).1
theorem OwnIn.keep {w w' : World} {lo hi : Nat} {v : Value} {n : Nat} {f : Nat → Nat} (h : OwnIn w lo hi v n f) (hb : ∀ b, lo ≤ b → b < hi → w'.heap[b]? = w.heap[b]?) : OwnIn w' lo hi v n f := by
  obtain ⟨h1, h2⟩ := h
  refine ⟨?_, h2⟩
  rcases h1 with ⟨rfl, rfl⟩ | ⟨g', cap, rfl, a1, a2, a3⟩
  · exact .inl ⟨rfl, rfl⟩
  · exact .inr ⟨g', cap, rfl, a1, a2, a3.block (hb g' a1 (h2 g' 0 n cap rfl))⟩
theorem OwnIn.sl {w : World} {lo hi : Nat} {v : Value} {n : Nat} {f : Nat → Nat} (h : OwnIn w lo hi v n f) : Sl .u32 w v n f := h.1.sl
/-- A row is no variable of another type. -/
theorem Own.turn {w w' : World} {base g : Nat} {v : Value} {n : Nat} {f : Nat → Nat} {cs : Array Value} {E : TypeId} (h : Own .u32 64 w base v n f) (t : Turn g w w') (hb : w.heap[g]? = some (.cells cs E (0, 0))) (hE : E ≠ 64) : Own .u32 64 w' base v n f := by
  rcases h with ⟨rfl, rfl⟩ | ⟨g', cap, rfl, a1, a2, a3⟩
  · exact .inl ⟨rfl, rfl⟩
  · refine .inr ⟨g', cap, rfl, a1, a2, a3.block (t.block g' ?_)⟩
    rintro rfl
    obtain ⟨cur, hc, -⟩ := a3
    rw [hb] at hc
    cases hc
    exact hE rfl

/-- The rest of a division; 0, where there is none. -/
def rz (X Y : Int) : Int := if Y = 0 then 0 else Int.tmod X Y
/-- What num.divide answers. -/
def DivR (X Y : Int) (ok : Bool) (nb mb : Nat) (w : World) (lo hi : Nat) (v : Value) : Prop :=
  ∃ vq vr bq br nq nr fq fr, v = .tuple #[.agg #[vq, .bool bq], .agg #[vr, .bool br], .bool ok] ∧ OwnIn w lo hi vq nq fq ∧ OwnIn w lo hi vr nr fr ∧ CanZ bq fq nq ∧ CanZ br fr nr ∧ nq ≤ nb ∧ nr ≤ mb ∧
    sgn bq (num 4294967296 fq nq) = Int.tdiv X Y ∧ sgn br (num 4294967296 fr nr) = rz X Y
theorem DivR.keep {X Y : Int} {ok : Bool} {nb mb : Nat} {w w' : World} {lo hi : Nat} {v : Value} (h : DivR X Y ok nb mb w lo hi v) (hb : ∀ b, lo ≤ b → b < hi → w'.heap[b]? = w.heap[b]?) : DivR X Y ok nb mb w' lo hi v := by
  obtain ⟨vq, vr, bq, br, nq, nr, fq, fr, e, o1, o2, r⟩ := h
  exact ⟨vq, vr, bq, br, nq, nr, fq, fr, e, o1.keep hb, o2.keep hb, r⟩

theorem divide_all (a u : Value) (ba bu : Bool) (n m nb mb : Nat) (f h : Nat → Nat) (X Y : Int) (w : World) (ha : Wk w a ba n f) (hu : Wk w u bu m h) (hf : ∀ i, i < n → f i < 4294967296) (hh : ∀ i, i < m → h i < 4294967296) (hn : 4 * (n + 1) ≤ 281474976710656)
    (hX : sgn ba (num 4294967296 f n) = X) (hY : sgn bu (num 4294967296 h m) = Y) (hnb : n + 1 ≤ nb) (hmb : m ≤ mb) (ok : Bool) (hok : ok = decide (Y ≠ 0)) :
    Calls Tryd.prog 63 #[a, u] w fun e w' => ∃ v, e = .returned v ∧ DivR X Y ok nb mb w' w.heap.size w'.heap.size v ∧ Up w w' := by
  by_cases hz : num 4294967296 h m = 0
  · have hY0 : Y = 0 := by rw [← hY, hz]; cases bu <;> rfl
    refine (divide_zero a u ba bu n m f h w ha hu hz).mono ?_
    rintro e w' ⟨rfl, u1⟩
    refine ⟨_, rfl, ⟨.slice none 0 0, .slice none 0 0, false, false, 0, 0, fun _ => 0, fun _ => 0, by rw [hok, hY0]; rfl, OwnIn.of (.inl ⟨rfl, rfl⟩), OwnIn.of (.inl ⟨rfl, rfl⟩), ?_, ?_, Nat.zero_le _, Nat.zero_le _, ?_, ?_⟩, u1⟩
    · exact ⟨⟨fun i hi => by omega, .inl rfl⟩, fun h => by cases h⟩
    · exact ⟨⟨fun i hi => by omega, .inl rfl⟩, fun h => by cases h⟩
    · rw [hY0, Int.tdiv_zero]; rfl
    · unfold rz; rw [if_pos hY0]; rfl
  · have hY0 : Y ≠ 0 := by
      rw [← hY]
      cases bu <;> simp [sgn] <;> omega
    refine (divide_any a u ba bu n m f h w ha hu hf hh hn (by omega)).mono ?_
    rintro e w' ⟨aq, ar, bq, br, nq, nr, fq, fr, rfl, o1, o2, u1, c1, c2, l1, l2, s1, s2⟩
    obtain ⟨vq, rfl, o1⟩ := o1
    obtain ⟨vr, rfl, o2⟩ := o2
    refine ⟨_, rfl, ⟨vq, vr, bq, br, nq, nr, fq, fr, by simp [hok, hY0], OwnIn.of o1, OwnIn.of o2, c1, c2, by omega, by omega, ?_, ?_⟩, u1⟩
    · rw [s1, hX, hY]
    · unfold rz; rw [if_neg hY0, s2, hX, hY]

/-- Two numbers that are worked at, side by side in a block. -/
theorem rdw_blk {w : World} {g : Nat} {v1 v2 : Value} {b1 b2 : Bool} {E : TypeId} (h : w.heap[g]? = some (.cells #[v1, .bool b1, v2, .bool b2] E (0, 0))) : RdW w (some ⟨g, 0, none⟩) 2 (pair v1 v2) (pair b1 b2) := by
  refine .inr ⟨g, 0, rfl, fun i hi => ?_⟩
  rw [cell_of_row _ _ _ _ _ _ h, cell_of_row _ _ _ _ _ _ h]
  match i, hi with
  | 0, _ => exact ⟨rfl, rfl⟩
  | 1, _ => exact ⟨rfl, rfl⟩
/-- The sum of two numbers that are worked at, side by side in a block. -/
theorem sum2_blk (g : Nat) (v1 v2 : Value) (b1 b2 : Bool) (n1 n2 M : Nat) (f1 f2 : Nat → Nat) (E : TypeId) (w : World) (hg : w.heap[g]? = some (.cells #[v1, .bool b1, v2, .bool b2] E (0, 0))) (h1 : Sl .u32 w v1 n1 f1) (h2 : Sl .u32 w v2 n2 f2) (d1 : ∀ i, i < n1 → f1 i < 4294967296) (d2 : ∀ i, i < n2 → f2 i < 4294967296) (l1 : n1 ≤ M) (l2 : n2 ≤ M) (hM : 4 * (M + 1) ≤ 281474976710656) :
    Calls Tryd.prog 48 #[.slice (some ⟨g, 0, none⟩) 2 2] w fun e w' => ∃ v b n f, e = .returned (.agg #[v, .bool b]) ∧ Own .u32 64 w' w.heap.size v n f ∧ Up w w' ∧ CanZ b f n ∧ n ≤ M + 1 ∧
      sgn b (num 4294967296 f n) = sgn b1 (num 4294967296 f1 n1) + sgn b2 (num 4294967296 f2 n2) := by
  refine (sum_any _ 2 2 M (pair v1 v2) (pair b1 b2) (pair n1 n2) (pair f1 f2) _ (rdw_blk hg) (lsts_two h1 h2 d1 d2 l1 l2) (Nat.le_refl _) hM (by decide)).mono ?_
  rintro e w' ⟨a, b, n, f, rfl, ⟨v, rfl, o⟩, u, c, l, s⟩
  refine ⟨_, b, n, f, rfl, o, u, c, l, ?_⟩
  rw [s]
  simp [sumZ, pair]

theorem Own.since {w wb : World} {base : Nat} {v : Value} {n : Nat} {f : Nat → Nat} {ks : List Knd} (h : Own .u32 64 wb base v n f) (hS : Since wb ks w) (ho : OldTyped wb 64 ks) : Own .u32 64 w base v n f := by
  rcases h with ⟨rfl, rfl⟩ | ⟨g', cap, rfl, a1, a2, a3⟩
  · exact .inl ⟨rfl, rfl⟩
  · have a3' := a3
    obtain ⟨cur, hc, -⟩ := a3'
    refine .inr ⟨g', cap, rfl, a1, a2, a3.block (hS.rest g' (Array.getElem?_eq_some_iff.1 hc).1 (fun k hk e => ?_))⟩
    obtain ⟨cs, E, hb, hE⟩ := ho.get k hk g' e
    rw [hb] at hc
    cases hc
    exact hE rfl
theorem tup3 {a b c a' b' c' : Value} (h : Value.tuple #[a, b, c] = Value.tuple #[a', b', c']) : a = a' ∧ b = b' ∧ c = c' := by
  cases h
  exact ⟨rfl, rfl, rfl⟩
theorem isZero_yes (ao : Option Addr) (cap : Nat) (w : World) : Calls Tryd.prog 65 #[.slice ao 0 cap] w fun e w' => e = .returned (.bool true) ∧ w' = w :=
  isZero_any ao 0 cap w
theorem isZero_no (ao : Option Addr) (n cap : Nat) (w : World) (h : n ≠ 0) : Calls Tryd.prog 65 #[.slice ao n cap] w fun e w' => e = .returned (.bool false) ∧ w' = w := by
  have := isZero_any ao n cap w
  rwa [show decide (n = 0) = false by simpa using h] at this

end Go.Proofs.YtjbocfhmfidjjaaDoor
