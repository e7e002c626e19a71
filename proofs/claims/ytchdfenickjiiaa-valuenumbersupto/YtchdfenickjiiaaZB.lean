/-
  What is proved here: num.numberOf cuts the noughts at the end off and keeps the sign of what is not 0; num.work and num.answer turn numbers into what is worked at and back. what the statements of num share: tandemlaw02.c copies a number, tandemlaw02.same tells that two numbers are the same. num.difference, num.total and num.sum: the sum of any numbers with their signs, canonical, in new memory. num.total and num.sum: the sum of any numbers with their signs, canonical, in new memory. num.workAll turns a row of numbers into what is worked at; num.Add answers the sum of all that it is handed. num.Of answers the number that it is handed; num.Text says it with its sign. num.Text says a number with its sign. plain facts on long division digit by digit, and on shifts; no walk. nat.takeTimes takes a multiple of one row of limbs from another in place, and tells whether it had to borrow. nat.guessLimb answers the quotient of a part by the divisor, or 1 more. plain facts on shifting a number's limbs; no walk. nat.shiftLeft and nat.shiftRight shift a number's limbs into new memory. plain facts on long division, one quotient limb at a time; no walk. nat.divideLong answers quotient and rest of two numbers, the divisor of two limbs or more. nat.divideLong answers quotient and rest of two numbers, the divisor of two limbs or more.
-/
import Derived.Test.YtchdfenickjiiaaZA
import Derived.Handy
import Derived.Deep.RegionWith
import Derived.Maps.AppendAt
import Derived.Laws.BitsAllLaws
import Derived.Laws.MathBits
import Derived.Test.YtchdfenickjiiaaProg
import Derived.Test.YtchdfenickjiiaaBase
import Derived.WalkLawsBesides
namespace Go.Proofs.Ytchdfenickjiiaa
open Go Go.RowKit

theorem cells2 {w : World} {g : Nat} {c0 c1 : Value} {E : TypeId} (h : w.heap[g]? = some (.cells #[c0, c1] E (0, 0))) :
    w.cell? ⟨g, 0, none⟩ = some c0 ∧ w.cell? ⟨g, 1, none⟩ = some c1 ∧ w.frozen? ⟨g, 0, none⟩ = false ∧ w.frozen? ⟨g, 1, none⟩ = false ∧ g < w.heap.size :=
  ⟨by rw [cell_of_row w g 0 _ E (0, 0) h]; rfl, by rw [cell_of_row w g 1 _ E (0, 0) h]; rfl, frozen_of_row w g 0 _ E h, frozen_of_row w g 1 _ E h, (Array.getElem?_eq_some_iff.1 h).1⟩

theorem up_alloc (w : World) (o : Obj) : Up w (w.alloc o) := below_alloc w o

theorem Up.blk {W w1 : World} {g : Nat} {o : Obj} (u : Up W w1) (h : W.heap[g]? = some o) : w1.heap[g]? = some o :=
  (Below.block u g (Array.getElem?_eq_some_iff.1 h).1).trans h

/-- What was just set is read. -/
theorem back2 {w1 : World} {g : Nat} {c0 c1 : Value} {E : TypeId} (h : w1.heap[g]? = some (.cells #[c0, c1] E (0, 0))) :
    (∀ x, (w1.setCell ⟨g, 0, none⟩ x).cell? ⟨g, 0, none⟩ = some x) ∧ ∀ x y, ((w1.setCell ⟨g, 0, none⟩ x).setCell ⟨g, 1, none⟩ y).cell? ⟨g, 1, none⟩ = some y := by
  have h1 := fun x => heap_setCell_same w1 g 0 _ E x h
  have h2 := fun x y => heap_setCell_same (w1.setCell ⟨g, 0, none⟩ x) g 1 _ E y (h1 x)
  exact ⟨fun x => by rw [cell_of_row _ g 0 _ E (0, 0) (h1 x)]; rfl, fun x y => by rw [cell_of_row _ g 1 _ E (0, 0) (h2 x y)]; rfl⟩

/-- The block that was laid last ahead of a call, behind it. -/
theorem res2 {V w1 : World} {c0 c1 : Value} {E : TypeId} (g : Nat) (hg : g = V.heap.size) (u : Up (V.alloc (.cells #[c0, c1] E)) w1) :
    w1.cell? ⟨g, 0, none⟩ = some c0 ∧ w1.cell? ⟨g, 1, none⟩ = some c1 ∧ w1.frozen? ⟨g, 0, none⟩ = false ∧ w1.frozen? ⟨g, 1, none⟩ = false ∧ g < w1.heap.size ∧
      (∀ x, (w1.setCell ⟨g, 0, none⟩ x).cell? ⟨g, 0, none⟩ = some x) ∧ ∀ x y, ((w1.setCell ⟨g, 0, none⟩ x).setCell ⟨g, 1, none⟩ y).cell? ⟨g, 1, none⟩ = some y := by
  subst hg
  obtain ⟨h1, h2, h3, h4, h5⟩ := cells2 (u.blk (heap_alloc_new V _))
  exact ⟨h1, h2, h3, h4, h5, back2 (u.blk (heap_alloc_new V _))⟩

set_option maxRecDepth 4000 in
set_option maxHeartbeats 1000000 in
theorem numberOf_any (ao : Option Addr) (n cap : Nat) (f : Nat → Nat) (b : Bool) (w : World) (h : Rd .u32 w ao n f) (hnc : n ≤ cap) (hm : cap ≤ 9223372036854775807) :
    Calls Try.prog 105 #[.slice ao n cap, .bool b] w fun e w' => ∃ m, m ≤ n ∧ e = .returned (.agg #[.slice ao m cap, .bool (b && !decide (m = 0))]) ∧ Up w w' ∧ (∀ i, m ≤ i → i < n → f i = 0) ∧ (m = 0 ∨ f (m - 1) ≠ 0) := by
  rcases h with rfl | ⟨bl, off, rfl, hc⟩
  · cases b <;>
    · go_enter Try.func105, Try.ntmps105
      go_wp2
      refine wp_loop_rounds 1 ?_
      rw [rounds_succ]
      go_wp2
      go_returns
      exact ⟨0, Nat.le_refl _, by simp, below_alloc w _, fun i h1 h2 => by omega, .inl rfl⟩
  · by_cases hn0 : n = 0
    · subst hn0
      cases b <;>
      · go_enter Try.func105, Try.ntmps105
        go_wp2
        refine wp_loop_rounds 1 ?_
        rw [rounds_succ]
        go_wp2
        go_returns
        exact ⟨0, Nat.le_refl _, by simp, below_alloc w _, fun i h1 h2 => by omega, .inl rfl⟩
    have hbl := Rd.lt hc (by omega)
    go_enter Try.func105, Try.ntmps105
    go_wp2
    go_loop [5] (fun t => ∃ k : Nat, k ≤ n ∧ t = .int .i64 k ∧ ∀ i, k ≤ i → i < n → f i = 0) (fun t => (intOf t).toNat)
    case atStart => exact ⟨n, Nat.le_refl _, rfl, fun i h1 h2 => by omega⟩
    case round =>
      obtain ⟨k, hk, rfl, hz⟩ := hrel
      by_cases hk0 : 0 < k
      · have hx := hc (k - 1) (by omega)
        clear hc
        by_cases he : f (k - 1) = 0
        · have HE : Hid (f (k - 1) = 0) := he
          rw [he] at hx
          clear he
          go_wp2
          go_round
          case rel => exact ⟨k - 1, by omega, by go_num, fun i h1 h2 => by
            by_cases e : i = k - 1
            · rw [e]; exact HE.out
            · exact hz i (by omega) h2⟩
          case measure => simp [intOf]; omega
        · have hb : ((f (k - 1) : Int) == 0) = false := by simp; omega
          generalize hy : f (k - 1) = y at *
          have HE := hide hy
          clear hy
          have hkz : ((k : Int) == 0) = false := by simp; omega
          cases b <;>
          · go_wp2
            go_returns
            exact ⟨k, hk, by first | (simp; done) | (simp; omega), below_alloc w _, hz, .inr (by rw [unhide HE]; exact he)⟩
      · have e0 : k = 0 := by omega
        subst e0
        cases b <;>
        · go_wp2
          go_returns
          exact ⟨0, by omega, by simp, below_alloc w _, hz, .inl rfl⟩

/-- A number (api.Num) that is handed about: its sign, and its limbs. -/
def Nm (w : World) (a : Value) (b : Bool) (n : Nat) (f : Nat → Nat) : Prop := ∃ v, a = .agg #[.bool b, v] ∧ Sl .u32 w v n f

/-- A number that is worked at. -/
def Wk (w : World) (a : Value) (b : Bool) (n : Nat) (f : Nat → Nat) : Prop := ∃ v, a = .agg #[v, .bool b] ∧ Sl .u32 w v n f

theorem Nm.up {w w' : World} {a : Value} {b : Bool} {n : Nat} {f : Nat → Nat} (h : Nm w a b n f) (u : Up w w') : Nm w' a b n f := by
  obtain ⟨v, e, s⟩ := h
  exact ⟨v, e, s.up u⟩

theorem Wk.up {w w' : World} {a : Value} {b : Bool} {n : Nat} {f : Nat → Nat} (h : Wk w a b n f) (u : Up w w') : Wk w' a b n f := by
  obtain ⟨v, e, s⟩ := h
  exact ⟨v, e, s.up u⟩

/-- What a number says. -/
def sgn (b : Bool) (x : Nat) : Int := if b then -(x : Int) else x

/-- Canonical: no limb 0 at the end, 0 without its sign. -/
def CanZ (b : Bool) (f : Nat → Nat) (n : Nat) : Prop := Can 4294967296 f n ∧ (b = true → n ≠ 0)

theorem CanZ.of {b : Bool} {f : Nat → Nat} {n : Nat} (h : Can 4294967296 f n) : CanZ (b && !decide (n = 0)) f n :=
  ⟨h, fun e => by simp at e; exact e.2⟩

theorem sgn_cut {b : Bool} {f : Nat → Nat} {n : Nat} : sgn (b && !decide (n = 0)) (num 4294967296 f n) = sgn b (num 4294967296 f n) := by
  by_cases h : n = 0
  · subst h
    simp [sgn, num]
  · simp [h]

theorem Sl.cutAt {k : IntKind} {w : World} {ao : Option Addr} {n cap m : Nat} {f : Nat → Nat} (h : Sl k w (.slice ao n cap) n f) (hm : m ≤ n) : Sl k w (.slice ao m cap) m f := by
  obtain ⟨ao', cap', e, h1, h2, h0, h3⟩ := h
  cases e
  exact ⟨ao, cap, rfl, by omega, h2, h0, h3.mono hm⟩

theorem Sl.rd {k : IntKind} {w : World} {ao : Option Addr} {n cap : Nat} {f : Nat → Nat} (h : Sl k w (.slice ao n cap) n f) : Rd k w ao n f ∧ n ≤ cap ∧ cap ≤ 9223372036854775807 := by
  obtain ⟨ao', cap', e, h1, h2, h0, h3⟩ := h
  cases e
  exact ⟨h3, h1, h2⟩

/-- Two cells of a block from 'base' on turned. -/
theorem Up.set2 {w w1 : World} {g : Nat} {x y : Value} (u : Up w w1) (hg : w.heap.size ≤ g) : Up w ((w1.setCell ⟨g, 0, none⟩ x).setCell ⟨g, 1, none⟩ y) :=
  Below.setCell (p := ⟨g, 1, none⟩) (Below.setCell (p := ⟨g, 0, none⟩) u hg x) hg y

set_option maxRecDepth 4000 in
set_option maxHeartbeats 1000000 in
theorem work_any (a : Value) (b : Bool) (n : Nat) (f : Nat → Nat) (w : World) (hv : Nm w a b n f) (hd : ∀ i, i < n → f i < 4294967296) :
    Calls Try.prog 96 #[a] w fun e w' => ∃ a' b' m, e = .returned a' ∧ (∀ w0, Nm w0 a b n f → Wk w0 a' b' m f) ∧ Up w w' ∧ CanZ b' f m ∧ m ≤ n ∧ sgn b' (num 4294967296 f m) = sgn b (num 4294967296 f n) := by
  obtain ⟨v, rfl, hv⟩ := hv
  obtain ⟨ao, cap, rfl, -⟩ := id hv
  obtain ⟨h3, h1, h2⟩ := ((hv.up (below_alloc w _)).up (below_alloc _ _)).rd
  go_enter Try.func96, Try.ntmps96
  go_wp2_with fail
  refine (numberOf_any ao n cap f b _ h3 h1 h2).mono ?_
  rintro e w1 ⟨m, hm, rfl, u1, hz, ht⟩
  obtain ⟨c0, c1, f0, f1, lt, e0, e1⟩ := res2 (w.heap.size + 1) (by simp) u1
  go_wp2_with fail
  refine bodyPost_ret (by simp [results, Try.results96, go_sem, e0, e1]; rfl) rfl ?_
  refine ⟨_, _, m, rfl, (fun w0 h => by obtain ⟨v, e, hv⟩ := h; cases e; exact ⟨_, rfl, hv.cutAt hm⟩), Up.set2 (((up_alloc w _).tr (up_alloc _ _)).tr u1) (by omega), CanZ.of ⟨fun i hi => hd i (by omega), ht⟩, hm, ?_⟩
  rw [sgn_cut, num_tail hm hz]

set_option maxRecDepth 4000 in
set_option maxHeartbeats 1000000 in
theorem answer_any (a : Value) (b : Bool) (n : Nat) (f : Nat → Nat) (w : World) (hv : Wk w a b n f) :
    Calls Try.prog 100 #[a] w fun e w' => ∃ a', e = .returned a' ∧ (∀ v, a = .agg #[v, .bool b] → a' = .agg #[.bool b, v]) ∧ Up w w' := by
  obtain ⟨v, rfl, hv⟩ := hv
  obtain ⟨ao, cap, rfl, -⟩ := id hv
  go_enter Try.func100, Try.ntmps100
  go_wp2_with fail
  go_returns
  exact ⟨_, rfl, (fun v e => by cases e; rfl), (up_alloc w _).tr (up_alloc _ _)⟩

/-- A number in memory of the call's own. -/
def OwnN (w : World) (base : Nat) (a : Value) (b : Bool) (n : Nat) (f : Nat → Nat) : Prop := ∃ v, a = .agg #[.bool b, v] ∧ Own .u32 57 w base v n f

def OwnW (w : World) (base : Nat) (a : Value) (b : Bool) (n : Nat) (f : Nat → Nat) : Prop := ∃ v, a = .agg #[v, .bool b] ∧ Own .u32 57 w base v n f

theorem OwnN.nm {w : World} {base : Nat} {a : Value} {b : Bool} {n : Nat} {f : Nat → Nat} (h : OwnN w base a b n f) : Nm w a b n f := by
  obtain ⟨v, e, o⟩ := h
  exact ⟨v, e, o.sl⟩

theorem Own.set2 {k : IntKind} {E : TypeId} {w : World} {base g : Nat} {v x y : Value} {n : Nat} {f : Nat → Nat} (h : Own k E w base v n f) (hg : g < base) : Own k E ((w.setCell ⟨g, 0, none⟩ x).setCell ⟨g, 1, none⟩ y) base v n f := by
  rcases h with ⟨rfl, rfl⟩ | ⟨g', cap, rfl, h1, h2, h3⟩
  · exact .inl ⟨rfl, rfl⟩
  · exact .inr ⟨g', cap, rfl, h1, h2, h3.block ((heap_setCell_other _ _ _ _ (by show g' ≠ g; omega)).trans (heap_setCell_other _ _ _ _ (by show g' ≠ g; omega)))⟩

theorem up_drew (w : World) : Up w w.drew := (Below.refl w.heap.size w).drew

theorem two_blocks (w : World) (A B : Obj) : ((w.alloc A).alloc B).heap[w.heap.size]? = some A ∧ ((w.alloc A).alloc B).heap[w.heap.size + 1]? = some B := by
  refine ⟨(Below.heap_alloc _ _ _ (by simp)).trans (heap_alloc_new w A), ?_⟩
  have := heap_alloc_new (w.alloc A) B
  simpa using this

theorem num_pos {f : Nat → Nat} {n : Nat} (h : Can 4294967296 f n) (hn : n ≠ 0) : 0 < num 4294967296 f n := by
  have h1 := num_ge (B := 4294967296) (f := f) (n := n) (by omega) (by rcases h.2 with h | h; omega; exact h)
  have : 0 < 4294967296 ^ (n - 1) := Nat.pos_of_ne_zero (by simp)
  omega

theorem sgn_inj {b : Bool} {x y : Nat} (h : sgn b x = sgn b y) : x = y := by
  cases b <;> simp [sgn] at h <;> omega

theorem sgn_sign {b c : Bool} {f g : Nat → Nat} {n m : Nat} (ca : CanZ b f n) (cu : CanZ c g m) (h : sgn b (num 4294967296 f n) = sgn c (num 4294967296 g m)) : b = c := by
  cases b <;> cases c
  · rfl
  · have := num_pos cu.1 (cu.2 rfl)
    simp [sgn] at h
    omega
  · have := num_pos ca.1 (ca.2 rfl)
    simp [sgn] at h
    omega
  · rfl

set_option maxRecDepth 4000 in
set_option maxHeartbeats 1000000 in
theorem sameNum_any (a u : Value) (b c : Bool) (n m : Nat) (f g : Nat → Nat) (w : World) (ha : Nm w a b n f) (hu : Nm w u c m g) (hb : b = c) (hs : n = m ∧ ∀ i, i < n → f i = g i) :
    Calls Try.prog 28 #[a, u] w fun e w' => e = .returned (.bool true) ∧ Up w w' := by
  subst hb
  obtain ⟨v, rfl, hv⟩ := ha
  obtain ⟨v', rfl, hu⟩ := hu
  obtain ⟨ao, cap, rfl, -⟩ := id hv
  obtain ⟨ao', cap', rfl, -⟩ := id hu
  have HS := hide hs
  clear hs
  obtain ⟨h3, h1, h2⟩ := ((hv.up (below_alloc w (.cells #[.bool b, .slice ao n cap] 45))).up (below_alloc _ (.cells #[.bool b, .slice ao' m cap'] 45))).rd
  obtain ⟨g3, g1, g2⟩ := ((hu.up (below_alloc w (.cells #[.bool b, .slice ao n cap] 45))).up (below_alloc _ (.cells #[.bool b, .slice ao' m cap'] 45))).rd
  go_enter Try.func28, Try.ntmps28
  cases b <;>
  · go_wp2_with fail
    refine (same_any _ _ _ _ _ _ f g _ h3 g3 (by omega) (by omega) (unhide HS)).mono ?_
    rintro e w1 ⟨rfl, u1⟩
    go_wp2_with fail
    go_ret
    exact ⟨rfl, ((up_alloc w _).tr (up_alloc _ _)).tr u1⟩

theorem numberOf_own (base : Nat) (v : Value) (n : Nat) (f : Nat → Nat) (b : Bool) (w : World) (hv : Own .u32 57 w base v n f) (hc : Can 4294967296 f n) :
    Calls Try.prog 105 #[v, .bool b] w fun e w' => ∃ a b', e = .returned a ∧ OwnW w' base a b' n f ∧ Up w w' ∧ CanZ b' f n ∧ sgn b' (num 4294967296 f n) = sgn b (num 4294967296 f n) := by
  have hs := hv.sl
  obtain ⟨ao, cap, rfl, -⟩ := id hs
  obtain ⟨h3, h1, h2⟩ := hs.rd
  refine (numberOf_any ao n cap f b w h3 h1 h2).mono ?_
  rintro e w' ⟨m, hm, rfl, u, hz, ht⟩
  obtain rfl : m = n := by
    rcases Nat.lt_or_ge m n with hl | hl
    · exact absurd (hz (n - 1) (by omega) (by omega)) (by rcases hc.2 with h | h; omega; exact h)
    · omega
  exact ⟨_, _, rfl, ⟨_, rfl, hv.up u⟩, u, CanZ.of hc, sgn_cut⟩

set_option maxRecDepth 4000 in
set_option maxHeartbeats 1000000 in
theorem difference_any (v u : Value) (n m : Nat) (f h : Nat → Nat) (w : World) (hv : Sl .u32 w v n f) (hu : Sl .u32 w u m h) (hf : ∀ i, i < n → f i < 4294967296) (hh : ∀ i, i < m → h i < 4294967296) (hn : 4 * n ≤ 281474976710656) (hm : 4 * m ≤ 281474976710656) :
    Calls Try.prog 124 #[v, u] w fun e w' => ∃ a b k q, e = .returned a ∧ OwnW w' w.heap.size a b k q ∧ Up w w' ∧ CanZ b q k ∧ (k ≤ n ∨ k ≤ m) ∧ sgn b (num 4294967296 q k) = (num 4294967296 f n : Int) - num 4294967296 h m := by
  have hv' := hv.up (below_alloc w (.cells #[.slice none 0 0, .bool false] 144))
  have hu' := hu.up (below_alloc w (.cells #[.slice none 0 0, .bool false] 144))
  go_enter Try.func124, Try.ntmps124
  go_wp2_with fail
  by_cases hlt : num 4294967296 f n < num 4294967296 h m
  · have HLT := hide hlt
    clear hlt
    refine (sub_lt _ _ n m f h _ hv' hu' hf hh (unhide HLT)).mono ?_
    rintro e w1 ⟨rfl, u1⟩
    replace u1 : Up _ w1 := u1
    go_wp2_with fail
    refine (sub_ge _ _ m n h f _ (hu'.up u1) (hv'.up u1) hh hf hm (Nat.le_of_lt (unhide HLT))).mono ?_
    rintro e w2 ⟨v2, n2, f2, rfl, o2, u2, c2, l2, s2⟩
    replace u2 : Up w1 w2 := u2
    have HS2 := hide s2
    clear s2
    obtain ⟨ao2, cap2, rfl, -⟩ := id o2.sl
    go_wp2_with fail
    refine (numberOf_own w1.heap.size _ n2 f2 true _ o2 c2).mono ?_
    rintro e w3 ⟨a3, b3, rfl, o3, u3, c3, s3⟩
    have HS3 := hide s3
    clear s3
    obtain ⟨v3, rfl, o3⟩ := o3
    obtain ⟨ao3, cap3, rfl, -⟩ := id o3.sl
    obtain ⟨d0, d1, g0, g1, lt, e0, e1⟩ := res2 w.heap.size rfl ((u1.tr u2).tr u3)
    have hz1 : w.heap.size < w1.heap.size := by have := Below.size u1; simp at this; omega
    go_wp2_with fail
    refine bodyPost_ret (by simp [results, Try.results124, go_sem, e0, e1]; rfl) rfl ?_
    refine ⟨_, b3, n2, f2, rfl, ⟨_, rfl, (o3.set2 hz1).mono (by omega)⟩, Up.set2 ((up_alloc w _).tr ((u1.tr u2).tr u3)) (Nat.le_refl _), c3, .inr l2, ?_⟩
    have := unhide HS2
    rw [unhide HS3]
    simp only [sgn]
    simp
    omega
  · have HLT := hide hlt
    clear hlt
    refine (sub_ge _ _ n m f h _ hv' hu' hf hh hn (Nat.le_of_not_lt (unhide HLT))).mono ?_
    rintro e w2 ⟨v2, n2, f2, rfl, o2, u2, c2, l2, s2⟩
    replace u2 : Up _ w2 := u2
    have HS2 := hide s2
    clear s2
    obtain ⟨ao2, cap2, rfl, -⟩ := id o2.sl
    go_wp2_with fail
    refine (numberOf_own (w.heap.size + 1) _ n2 f2 false _ (o2.mono (by simp)) c2).mono ?_
    rintro e w3 ⟨a3, b3, rfl, o3, u3, c3, s3⟩
    have HS3 := hide s3
    clear s3
    obtain ⟨v3, rfl, o3⟩ := o3
    obtain ⟨ao3, cap3, rfl, -⟩ := id o3.sl
    obtain ⟨d0, d1, g0, g1, lt, e0, e1⟩ := res2 w.heap.size rfl (u2.tr u3)
    go_wp2_with fail
    refine bodyPost_ret (by simp [results, Try.results124, go_sem, e0, e1]; rfl) rfl ?_
    refine ⟨_, b3, n2, f2, rfl, ⟨_, rfl, (o3.set2 (by omega)).mono (by omega)⟩, Up.set2 ((up_alloc w _).tr (u2.tr u3)) (Nat.le_refl _), c3, .inl l2, ?_⟩
    have := unhide HS2
    rw [unhide HS3]
    simp only [sgn]
    simp
    omega

/-- k lists of at most M limbs. -/
def Lsts (w : World) (M k : Nat) (va : Nat → Value) (na : Nat → Nat) (fa : Nat → Nat → Nat) : Prop :=
  ∀ j, j < k → Sl .u32 w (va j) (na j) (fa j) ∧ (∀ i, i < na j → fa j i < 4294967296) ∧ na j ≤ M

theorem Lsts.up {w w' : World} {M k : Nat} {va : Nat → Value} {na : Nat → Nat} {fa : Nat → Nat → Nat} (h : Lsts w M k va na fa) (u : Up w w') : Lsts w' M k va na fa :=
  fun j hj => ⟨(h j hj).1.up u, (h j hj).2⟩

def updA {α : Type} (f : Nat → α) (i : Nat) (x : α) : Nat → α := fun j => if j = i then x else f j

theorem updA_same {α : Type} (f : Nat → α) (i : Nat) (x : α) : updA f i x i = x := by simp [updA]

theorem updA_other {α : Type} {f : Nat → α} {i j : Nat} {x : α} (h : j ≠ i) : updA f i x j = f j := by simp [updA, h]

theorem Lsts.push {w : World} {M k n : Nat} {va : Nat → Value} {na : Nat → Nat} {fa : Nat → Nat → Nat} {v : Value} {f : Nat → Nat} (h : Lsts w M k va na fa) (hv : Sl .u32 w v n f) (hd : ∀ i, i < n → f i < 4294967296) (hn : n ≤ M) :
    Lsts w M (k + 1) (updA va k v) (updA na k n) (updA fa k f) := by
  intro j hj
  by_cases e : j = k
  · subst e
    rw [updA_same, updA_same, updA_same]
    exact ⟨hv, hd, hn⟩
  · rw [updA_other e, updA_other e, updA_other e]
    exact h j (by omega)

theorem ownsRow_up {w w' : World} {base : Nat} {E : TypeId} {size : Nat} {v : Value} {n : Nat} {xs : List Value} (h : w.ownsRow base E size v n xs) (u : Up w w') : w'.ownsRow base E size v n xs :=
  h.kept (row := none) ⟨u.os, u.tape, u.output, u.size, fun k hk _ => u.block k hk⟩ (by
    cases hv : v.ownBlock with
    | none => exact .inl rfl
    | some g => exact .inr (by simp))

theorem total_congr {na na' : Nat → Nat} {fa fa' : Nat → Nat → Nat} {k : Nat} (h : ∀ j, j < k → na j = na' j ∧ fa j = fa' j) : total na fa k = total na' fa' k := by
  induction k with
  | zero => rfl
  | succ k ih =>
    show total na fa k + _ = total na' fa' k + _
    rw [ih (fun j hj => h j (by omega)), (h k (by omega)).1, (h k (by omega)).2]

theorem total_push {na : Nat → Nat} {fa : Nat → Nat → Nat} {k n : Nat} {f : Nat → Nat} : total (updA na k n) (updA fa k f) (k + 1) = total na fa k + num 4294967296 f n := by
  show total (updA na k n) (updA fa k f) k + num 4294967296 (updA fa k f k) (updA na k n k) = _
  rw [updA_same, updA_same, total_congr (na' := na) (fa' := fa) (fun j hj => ⟨updA_other (by omega), updA_other (by omega)⟩)]

theorem valsOf_push (va : Nat → Value) (k : Nat) (v : Value) : valsOf va k ++ [v] = valsOf (updA va k v) (k + 1) := by
  apply List.ext_getElem?
  intro i
  rcases Nat.lt_trichotomy i k with h | h | h
  · rw [List.getElem?_append_left (by rw [valsOf_length]; exact h), valsOf_get _ _ _ h, valsOf_get _ _ _ (by omega), updA_other (by omega)]
  · subst h
    rw [List.getElem?_append_right (by rw [valsOf_length]; exact Nat.le_refl _), valsOf_length, valsOf_get _ _ _ (by omega), updA_same]
    simp
  · rw [List.getElem?_eq_none (by rw [List.length_append, valsOf_length]; simp; omega), List.getElem?_eq_none (by rw [valsOf_length]; omega)]

theorem Rds.of_row {w : World} {base : Nat} {v : Value} {k : Nat} {va : Nat → Value} (h : w.ownsRow base 43 1 v k (valsOf va k)) : ∃ mo cap, v = .slice mo k cap ∧ (mo = none → cap = 0) ∧ Rds w mo k va := by
  rcases id h.2 with ⟨rfl, rfl⟩ | ⟨g, cap, cur, rfl, h1, h2, h3, h4, h5, h6⟩
  · exact ⟨none, 0, rfl, fun _ => rfl, .inl rfl⟩
  · exact ⟨some ⟨g, 0, none⟩, cap, rfl, (fun e => by cases e), .inr ⟨g, 0, rfl, fun i hi => by rw [Nat.zero_add, h.cellAt i (by omega), valsOf_get va k i hi]⟩⟩

set_option maxRecDepth 4000 in
set_option maxHeartbeats 1000000 in
theorem total_any (base : Nat) (v : Value) (k M : Nat) (va : Nat → Value) (na : Nat → Nat) (fa : Nat → Nat → Nat) (w : World) (hrow : w.ownsRow base 43 1 v k (valsOf va k)) (hl : Lsts w M k va na fa) (hM : 4 * (M + 1) ≤ 281474976710656) (hk : k + 2 ≤ 4294967296) :
    Calls Try.prog 125 #[v] w fun e w' => ∃ v' n' f', e = .returned v' ∧ Own .u32 57 w' w.heap.size v' n' f' ∧ Up w w' ∧ Can 4294967296 f' n' ∧ n' ≤ M + 1 ∧ num 4294967296 f' n' = total na fa k := by
  obtain ⟨mo, cap, rfl, hmo, hr⟩ := Rds.of_row hrow
  have hnil : Sl .u32 w (.slice none 0 0) 0 (fun _ => 0) := ⟨none, 0, rfl, Nat.le_refl _, by omega, fun _ => rfl, .inl rfl⟩
  clear hrow
  go_enter Try.func125, Try.ntmps125
  go_wp2_with fail
  refine (add_any _ _ 0 0 k cap M (fun _ => 0) (fun _ => 0) mo va na fa w hnil hnil hr (fun i hi => (hl i hi).1) (fun i hi => by omega) (fun i hi => by omega) (fun i hi => (hl i hi).2.1) (by omega) (by omega) (fun i hi => (hl i hi).2.2) hM hk).mono ?_
  rintro e w1 ⟨v1, n1, f1, rfl, o1, u1, c1, l1, s1⟩
  have HS := hide s1
  clear s1
  go_wp2_with fail
  go_ret
  exact ⟨v1, n1, f1, rfl, o1, u1, c1, l1, by rw [unhide HS]; simp [num]⟩

/-- k numbers that are worked at, read from an address on. -/
def RdW (w : World) (mo : Option Addr) (k : Nat) (vs : Nat → Value) (bs : Nat → Bool) : Prop :=
  k = 0 ∨ ∃ b off, mo = some ⟨b, off, none⟩ ∧ ∀ i, i < k → w.cell? ⟨b, off + i * 2, none⟩ = some (vs i) ∧ w.cell? ⟨b, off + i * 2 + 1, none⟩ = some (.bool (bs i))

/-- The sum of whole numbers. -/
def sumZ (g : Nat → Int) : Nat → Int
  | 0 => 0
  | k + 1 => sumZ g k + g k

def Sep (a b : Value) : Prop := ∀ g, a.ownBlock = some g → b.ownBlock ≠ some g

theorem sep_nil : Sep (.slice none 0 0) (.slice none 0 0) := fun g h => by cases h

theorem cells_at {w : World} {g : Nat} (a : Value) (E : TypeId) (hg : g = w.heap.size) : ∀ j u, [a][j]? = some u → (w.alloc (.cells #[a] E)).cell? ((⟨g, 0, none⟩ : Addr).add j) = some u := by
  subst hg
  exact cells_one w a E

theorem one_slice (ao : Option Addr) (n cap : Nat) : ∀ u ∈ [Value.slice ao n cap], u.oneCell' = true := by
  intro u hu
  simp only [List.mem_cons, List.not_mem_nil, or_false] at hu
  subst hu
  rfl

theorem Sep.comm {a b : Value} (h : Sep a b) : Sep b a := fun g h1 h2 => h g h2 h1

theorem Sep.kept {a b : Value} (h : Sep a b) : b.ownBlock = none ∨ b.ownBlock ≠ a.ownBlock := by
  cases hb : b.ownBlock with
  | none => exact .inl rfl
  | some g => exact .inr (fun e => h g e.symm hb)

theorem Sep.push {a a' b : Value} {N : Nat} (h : Sep a b) (ha : a'.ownBlock = a.ownBlock ∨ a'.ownBlock = some N) (hb : ∀ g, b.ownBlock = some g → g < N) : Sep a' b := by
  intro g h1 h2
  rcases ha with e | e
  · exact h g (e ▸ h1) h2
  · rw [e] at h1
    cases h1
    exact absurd (hb _ h2) (by omega)

set_option maxRecDepth 4000 in
set_option maxHeartbeats 2000000 in
theorem sum_any (mo : Option Addr) (k capm M : Nat) (vs : Nat → Value) (bs : Nat → Bool) (ns : Nat → Nat) (fs : Nat → Nat → Nat) (w : World) (hm : RdW w mo k vs bs) (hl : Lsts w M k vs ns fs) (hcap : k ≤ capm) (hM : 4 * (M + 1) ≤ 281474976710656) (hk : k + 2 ≤ 4294967296) :
    Calls Try.prog 98 #[.slice mo k capm] w fun e w' => ∃ a b n f, e = .returned a ∧ OwnW w' w.heap.size a b n f ∧ Up w w' ∧ CanZ b f n ∧ n ≤ M + 1 ∧ sgn b (num 4294967296 f n) = sumZ (fun i => sgn (bs i) (num 4294967296 (fs i) (ns i))) k := by
  obtain ⟨i, hi, hz0, hz1, hz2⟩ := info_parts infoS
  have HL := hide hl
  clear hl
  go_enter Try.func98, Try.ntmps98
  go_wp2_with fail
  go_loopw [3, 4, 9] (fun t3 t4 t9 wr => ∃ (j kA kB : Nat) (va vb : Nat → Value) (na nb : Nat → Nat) (fa fb : Nat → Nat → Nat), j ≤ k ∧ t9 = .int .i64 j ∧ wr.ownsRow (w.heap.size + 1) 43 1 t3 kA (valsOf va kA) ∧ wr.ownsRow (w.heap.size + 1) 43 1 t4 kB (valsOf vb kB) ∧ Sep t3 t4 ∧ kA + kB = j ∧
    Up (w.alloc (.cells #[.slice none 0 0, .bool false] 144)) wr ∧ Hid (Lsts w M kA va na fa ∧ Lsts w M kB vb nb fb ∧ (total na fa kA : Int) - total nb fb kB = sumZ (fun i => sgn (bs i) (num 4294967296 (fs i) (ns i))) j)) (fun _ _ t9 _ => k - (intOf t9).toNat)
  case atStart => exact ⟨0, 0, 0, fun _ => .slice none 0 0, fun _ => .slice none 0 0, fun _ => 0, fun _ => 0, fun _ _ => 0, fun _ _ => 0, Nat.zero_le _, rfl, World.ownsRow_nil _ _ _ _, World.ownsRow_nil _ _ _ _, sep_nil, rfl, Up.refl _, hide ⟨fun j hj => by omega, fun j hj => by omega, rfl⟩⟩
  case round =>
    obtain ⟨j, kA, kB, va, vb, na, nb, fa, fb, hj, rfl, rA, rB, sep, hkk, up, HH⟩ := hrel
    have hsz := Below.size up
    simp at hsz
    by_cases hjk : j < k
    · rcases hm with hm | ⟨b, off, rfl, hc⟩
      · omega
      obtain ⟨sj, dj, nj⟩ := unhide HL j hjk
      obtain ⟨aoj, capj, ej, -⟩ := id sj
      have hx0 := (hc j hjk).1
      have hx1 := (hc j hjk).2
      have hbl : b < w.heap.size := World.block_lt_of_cell? w _ hx0
      rw [ej] at hx0 sj
      have hc0 : wr.cell? ⟨b, off + j * 2, none⟩ = some (.slice aoj (ns j) capj) := (Below.cell up (p := ⟨b, off + j * 2, none⟩) (by show b < _; simp; omega)).trans ((Below.cell (up_alloc w _) (p := ⟨b, off + j * 2, none⟩) hbl).trans hx0)
      have hc1 : wr.cell? ⟨b, off + j * 2 + 1, none⟩ = some (.bool (bs j)) := (Below.cell up (p := ⟨b, off + j * 2 + 1, none⟩) (by show b < _; simp; omega)).trans ((Below.cell (up_alloc w _) (p := ⟨b, off + j * 2 + 1, none⟩) hbl).trans hx1)
      have HSJ := hide (And.intro sj (And.intro dj nj))
      clear hc hx0 hx1 ej sj dj nj
      generalize hnj : ns j = n at *
      have HNJ := hide hnj
      clear hnj
      cases hbj : bs j
      · rw [hbj] at hc1
        go_wp2_with (at_builtin; refine wpList_append_own_at _ rfl _ _ 168 rfl (w.heap.size + 1) 43 i (.slice none 0 0) 1 24 Try.underlying168 hi hz0 hz1 hz2 rfl (by decide) _ _ _ rfl ((rA.alloc _).alloc _) ⟨wr.heap.size + 1, 0, none⟩ 1 1 [.slice aoj n capj] rfl rfl (cells_at _ _ (by simp)) (one_slice _ _ _) (by unfold maxLen; omega) (by omega) (by simp; omega) ?_; intro v4 w4 hown4 hgrow4 hx4 hat4)
        rw [valsOf_push] at hown4
        have rB4 := ((rB.alloc _).alloc _).kept hgrow4 sep.kept
        have sep4 : Sep v4 u4 := sep.push hat4 (fun g hg => by have := (rB.lt g hg).2; simp; omega)
        have up4 : Up (w.alloc (.cells #[.slice none 0 0, .bool false] 144)) w4 := (Below.alloc (Below.alloc up (Below.size up) _) (by have := Below.size up; simp at this ⊢; omega) _).grown hgrow4 (by simp; omega) (fun g hg => by have := (rA.lt g hg).1; simp; omega)
        clear hgrow4 hx4 hat4 rA rB sep up
        go_roundw
        case rel =>
          obtain ⟨sj, dj, nj⟩ := unhide HSJ
          obtain ⟨lA, lB, hs⟩ := unhide HH
          refine ⟨j + 1, kA + 1, kB, _, vb, _, nb, _, fb, by omega, by go_num, hown4, rB4, sep4, by omega, up4, hide ⟨lA.push sj dj nj, lB, ?_⟩⟩
          rw [total_push]
          show _ = sumZ _ j + sgn (bs j) (num 4294967296 (fs j) (ns j))
          rw [← hs, hbj, unhide HNJ]
          simp only [sgn]
          simp
          omega
        case measure => simp [intOf]; omega
      · rw [hbj] at hc1
        go_wp2_with (at_builtin; refine wpList_append_own_at _ rfl _ _ 168 rfl (w.heap.size + 1) 43 i (.slice none 0 0) 1 24 Try.underlying168 hi hz0 hz1 hz2 rfl (by decide) _ _ _ rfl ((rB.alloc _).alloc _) ⟨wr.heap.size + 1, 0, none⟩ 1 1 [.slice aoj n capj] rfl rfl (cells_at _ _ (by simp)) (one_slice _ _ _) (by unfold maxLen; omega) (by omega) (by simp; omega) ?_; intro v4 w4 hown4 hgrow4 hx4 hat4)
        rw [valsOf_push] at hown4
        have rA4 := ((rA.alloc _).alloc _).kept hgrow4 sep.comm.kept
        have sep4 : Sep u3 v4 := (sep.comm.push hat4 (fun g hg => by have := (rA.lt g hg).2; simp; omega)).comm
        have up4 : Up (w.alloc (.cells #[.slice none 0 0, .bool false] 144)) w4 := (Below.alloc (Below.alloc up (Below.size up) _) (by have := Below.size up; simp at this ⊢; omega) _).grown hgrow4 (by simp; omega) (fun g hg => by have := (rB.lt g hg).1; simp; omega)
        clear hgrow4 hx4 hat4 rA rB sep up
        go_roundw
        case rel =>
          obtain ⟨sj, dj, nj⟩ := unhide HSJ
          obtain ⟨lA, lB, hs⟩ := unhide HH
          refine ⟨j + 1, kA, kB + 1, va, _, na, _, fa, _, by omega, by go_num, rA4, hown4, sep4, by omega, up4, hide ⟨lA, lB.push sj dj nj, ?_⟩⟩
          rw [total_push]
          show _ = sumZ _ j + sgn (bs j) (num 4294967296 (fs j) (ns j))
          rw [← hs, hbj, unhide HNJ]
          simp only [sgn]
          simp
          omega
        case measure => simp [intOf]; omega
    · obtain rfl : j = k := by omega
      obtain ⟨lA, lB, hs⟩ := unhide HH
      have HS := hide hs
      have HA := hide lA
      have HB := hide lB
      have hupw : Up w wr := (up_alloc w _).tr up
      clear hs lA lB HH hm
      go_wp2_with fail
      refine (total_any (w.heap.size + 1) _ kA M va na fa _ rA ((unhide HA).up hupw) hM (by omega)).mono ?_
      rintro e w1 ⟨v1, n1, f1, rfl, o1, u1, c1, l1, s1⟩
      have S1 := hide s1
      clear s1
      go_wp2_with fail
      have rB1 : w1.ownsRow (w.heap.size + 1) 43 1 u4 kB (valsOf vb kB) := ownsRow_up rB u1
      refine (total_any (w.heap.size + 1) _ kB M vb nb fb _ rB1 ((unhide HB).up (hupw.tr u1)) hM (by omega)).mono ?_
      rintro e w2 ⟨v2, n2, f2, rfl, o2, u2, c2, l2, s2⟩
      have S2 := hide s2
      clear s2
      go_wp2_with fail
      refine (difference_any _ _ n1 n2 f1 f2 _ (o1.sl.up u2) o2.sl c1.1 c2.1 (by omega) (by omega)).mono ?_
      rintro e w3 ⟨a3, b3, n3, f3, rfl, o3, u3', c3, l3, s3⟩
      have S3 := hide s3
      clear s3
      obtain ⟨v3, rfl, o3⟩ := o3
      obtain ⟨ao3, cap3, rfl, -⟩ := id o3.sl
      obtain ⟨d0, d1, g0, g1, lt, e0, e1⟩ := res2 w.heap.size rfl (((up.tr u1).tr u2).tr u3')
      have hz2' : w.heap.size < w2.heap.size := by have h1 := Below.size u1; have h2 := Below.size u2; omega
      go_wp2_with fail
      refine bodyPost_ret (by simp [results, Try.results98, go_sem, e0, e1]; rfl) rfl ?_
      refine ⟨_, b3, n3, f3, rfl, ⟨_, rfl, (o3.set2 hz2').mono (by omega)⟩, Up.set2 (((hupw.tr u1).tr u2).tr u3') (Nat.le_refl _), c3, by omega, ?_⟩
      rw [unhide S3, unhide S1, unhide S2, unhide HS]

/-- k numbers, read from an address on. -/
def RdN (w : World) (mo : Option Addr) (k : Nat) (vs : Nat → Value) (bs : Nat → Bool) : Prop :=
  k = 0 ∨ ∃ b off, mo = some ⟨b, off, none⟩ ∧ ∀ i, i < k → w.cell? ⟨b, off + i * 2, none⟩ = some (.bool (bs i)) ∧ w.cell? ⟨b, off + i * 2 + 1, none⟩ = some (vs i)

/-- A block of N cells, not frozen. -/
def RowV (E : TypeId) (w : World) (g N : Nat) (c : Nat → Value) : Prop :=
  ∃ cur, w.heap[g]? = some (.cells cur E (0, 0)) ∧ cur.size = N ∧ ∀ i, i < N → cur[i]? = some (c i)

theorem RowV.cell {E : TypeId} {w : World} {g N i : Nat} {c : Nat → Value} (h : RowV E w g N c) (hi : i < N) : w.cell? ⟨g, i, none⟩ = some (c i) := by
  obtain ⟨cur, h1, h2, h3⟩ := h
  rw [cell_of_row w g i cur E (0, 0) h1]
  exact h3 i hi

theorem RowV.free {E : TypeId} {w : World} {g N : Nat} {c : Nat → Value} (h : RowV E w g N c) (i : Nat) : w.frozen? ⟨g, i, none⟩ = false := by
  obtain ⟨cur, h1, h2, h3⟩ := h
  exact frozen_of_row w g i cur E h1

theorem RowV.lt {E : TypeId} {w : World} {g N : Nat} {c : Nat → Value} (h : RowV E w g N c) : g < w.heap.size := by
  obtain ⟨cur, h1, h2, h3⟩ := h
  exact (Array.getElem?_eq_some_iff.1 h1).1

theorem RowV.set {E : TypeId} {w : World} {g N i : Nat} {c : Nat → Value} (h : RowV E w g N c) (hi : i < N) (x : Value) : RowV E (w.setCell ⟨g, i, none⟩ x) g N (updA c i x) := by
  obtain ⟨cur, h1, h2, h3⟩ := h
  refine ⟨cur.setIfInBounds i x, heap_setCell_same w g i cur E _ h1, by simpa using h2, fun j hj => ?_⟩
  by_cases e : j = i
  · subst e
    rw [updA_same, Array.getElem?_setIfInBounds_self_of_lt (by omega)]
  · rw [updA_other e, Array.getElem?_setIfInBounds_ne (by omega)]
    exact h3 j hj

theorem RowV.up {E : TypeId} {w w' : World} {g N : Nat} {c : Nat → Value} (h : RowV E w g N c) (u : Up w w') : RowV E w' g N c := by
  have hl := h.lt
  obtain ⟨cur, h1, h2, h3⟩ := h
  exact ⟨cur, (u.block g hl).trans h1, h2, h3⟩

theorem infoWk : (Try.prog.info? 144).map (fun i => (i.zero, i.size, i.bytes)) = some (some (.agg #[.slice none 0 0, .bool false]), 2, 32) := by kernel_rfl

/-- make([]number, n): a block of its own. -/
theorem wpList_mkW {w : World} {ops : Array Oper} {rest : List Oper} {o : Oper} {a : Act} {Q : Exit → Act → World → Prop}
    (hg : o.guard = none) (l c : Operand) (hop : o.op = Op.makeSlice 149 l c)
    (kl kc : IntKind) (L C : Int) (n : Nat) (hl : a.eval l = .int kl L) (hc : a.eval c = .int kc C) (hL : L = (n : Int)) (hC : C = (n : Int)) (b2 : 32 * n ≤ 281474976710656)
    (hK : ∀ w' d, RowV 144 w' w.heap.size (n * 2) d → Up w w' → wpList Try.prog ops Q rest (a.put o.dst (.slice (some ⟨w.heap.size, 0, none⟩) n n)) w') :
    wpList Try.prog ops Q (o :: rest) a w := by
  obtain ⟨i, hi, hz0, hz1, hz2⟩ := info_parts infoWk
  have hrun := run_make (P := Try.prog) w 149 144 i _ Try.underlying149 hi hz0 kl kc n n (by omega) (by omega) (by rw [hz2]; omega) (by omega)
  simp only [Int.toNat_natCast, hz1] at hrun
  subst hL hC
  refine wpList_plain hg fun K hK' => ?_
  unfold Oper.wp
  simp [execOp, hop, hl, hc, hrun, Result.andThen]
  refine hK' _ _ (hK _ (fun i => ((madeCells (Value.agg #[.slice none 0 0, .bool false]).cells (n * 2))[i]?).getD undef) ⟨_, heap_alloc_new w _, size_madeCells _ _, fun i hi => ?_⟩ (up_alloc w _))
  have h : i < (madeCells (Value.agg #[.slice none 0 0, .bool false]).cells (n * 2)).size := by rw [size_madeCells]; exact hi
  simp only []
  rw [Array.getElem?_eq_getElem h, Option.getD_some]

theorem sumZ_congr {g h : Nat → Int} {k : Nat} (e : ∀ i, i < k → g i = h i) : sumZ g k = sumZ h k := by
  induction k with
  | zero => rfl
  | succ k ih =>
    show sumZ g k + g k = sumZ h k + h k
    rw [ih (fun i hi => e i (by omega)), e k (by omega)]

theorem Up.set2' {w w1 : World} {g i j : Nat} {x y : Value} (u : Up w w1) (hg : w.heap.size ≤ g) : Up w ((w1.setCell ⟨g, i, none⟩ x).setCell ⟨g, j, none⟩ y) :=
  Below.setCell (p := ⟨g, j, none⟩) (Below.setCell (p := ⟨g, i, none⟩) u hg x) hg y

set_option maxRecDepth 4000 in
set_option maxHeartbeats 2000000 in
theorem workAll_any (mo : Option Addr) (k capm M : Nat) (vs : Nat → Value) (bs : Nat → Bool) (ns : Nat → Nat) (fs : Nat → Nat → Nat) (w : World) (hm : RdN w mo k vs bs) (hl : Lsts w M k vs ns fs) (hk : 32 * k ≤ 281474976710656) :
    Calls Try.prog 99 #[.slice mo k capm] w fun e w' => ∃ (mo' : Option Addr) (cap' : Nat) (vs' : Nat → Value) (bs' : Nat → Bool) (ms : Nat → Nat), e = .returned (.slice mo' k cap') ∧ k ≤ cap' ∧ RdW w' mo' k vs' bs' ∧ Lsts w M k vs' ms fs ∧ Up w w' ∧
      ∀ i, i < k → CanZ (bs' i) (fs i) (ms i) ∧ ms i ≤ ns i ∧ sgn (bs' i) (num 4294967296 (fs i) (ms i)) = sgn (bs i) (num 4294967296 (fs i) (ns i)) := by
  have HL := hide hl
  clear hl
  go_enter Try.func99, Try.ntmps99
  go_wp2_with (at_make; refine wpList_mkW rfl _ _ rfl .i64 .i64 _ _ k rfl rfl rfl rfl hk ?_; intro w1 d1 r1 u1)
  go_loopw [11] (fun t11 wr => ∃ (j : Nat) (c : Nat → Value) (vs' : Nat → Value) (bs' : Nat → Bool) (ms : Nat → Nat), j ≤ k ∧ t11 = .int .i64 j ∧ RowV 144 wr w.heap.size (k * 2) c ∧ Up w wr ∧
    Hid (∀ i, i < j → c (i * 2) = vs' i ∧ c (i * 2 + 1) = .bool (bs' i) ∧ Sl .u32 w (vs' i) (ms i) (fs i) ∧ CanZ (bs' i) (fs i) (ms i) ∧ ms i ≤ ns i ∧ sgn (bs' i) (num 4294967296 (fs i) (ms i)) = sgn (bs i) (num 4294967296 (fs i) (ns i)))) (fun t11 _ => k - (intOf t11).toNat)
  case atStart => exact ⟨0, d1, fun _ => .slice none 0 0, fun _ => false, fun _ => 0, Nat.zero_le _, rfl, r1, u1, hide (fun i hi => by omega)⟩
  case round =>
    obtain ⟨j, c, vs', bs', ms, hj, rfl, r, u, HH⟩ := hrel
    clear r1 u1
    have hszr := Below.size u
    have hltr := r.lt
    by_cases hjk : j < k
    · rcases hm with hm | ⟨b, off, rfl, hc⟩
      · omega
      obtain ⟨sj, dj, nj⟩ := unhide HL j hjk
      obtain ⟨aoj, capj, ej, -⟩ := id sj
      have hx0 := (hc j hjk).1
      have hx1 := (hc j hjk).2
      have hbl : b < w.heap.size := World.block_lt_of_cell? w _ hx0
      rw [ej] at hx1 sj
      have hc0 : wr.cell? ⟨b, off + j * 2, none⟩ = some (.bool (bs j)) := (Below.cell u (p := ⟨b, off + j * 2, none⟩) hbl).trans hx0
      have hc1 : wr.cell? ⟨b, off + j * 2 + 1, none⟩ = some (.slice aoj (ns j) capj) := (Below.cell u (p := ⟨b, off + j * 2 + 1, none⟩) hbl).trans hx1
      have HSJ := hide (And.intro sj (And.intro dj nj))
      clear hc hx0 hx1 ej sj dj nj
      generalize hnj : ns j = n at *
      generalize hbj : bs j = bj at *
      have HNJ := hide (And.intro hnj hbj)
      clear hnj hbj
      go_wp2_with fail
      refine (work_any _ bj n (fs j) _ ⟨_, rfl, ((unhide HSJ).1.up u).up (up_alloc _ _)⟩ (unhide HSJ).2.1).mono ?_
      rintro e w2 ⟨a2, b2, m2, rfl, hw2, u2, c2, l2, s2⟩
      obtain ⟨v2, rfl, sv2⟩ := hw2 w ⟨_, rfl, (unhide HSJ).1⟩
      obtain ⟨ao2, cap2, rfl, -⟩ := id sv2
      have HS2 := hide (And.intro sv2 (And.intro c2 (And.intro l2 s2)))
      have r2 := (r.up (up_alloc _ _)).up u2
      have u2' : Up w w2 := (u.tr (up_alloc _ _)).tr u2
      have hy0 := r2.cell (i := j * 2) (by omega)
      have hy1 := r2.cell (i := j * 2 + 1) (by omega)
      have hf0 := r2.free (j * 2)
      have hf1 := r2.free (j * 2 + 1)
      have HR := hide r2
      have HU := hide u2'
      clear sv2 c2 l2 s2 r2 u2' r u u2 hw2
      go_wp2_with fail
      go_roundw
      case rel =>
        refine ⟨j + 1, _, updA vs' j (.slice ao2 m2 cap2), updA bs' j b2, updA ms j m2, by omega, by go_num, ((unhide HR).set (by omega) _).set (by omega) _, Up.set2' (unhide HU) (Nat.le_refl _), hide (fun i hi => ?_)⟩
        obtain ⟨sv2, c2, l2, s2⟩ := unhide HS2
        obtain ⟨e1, e2⟩ := unhide HNJ
        by_cases e : i = j
        · subst e
          rw [updA_same, updA_same, updA_same, updA_other (by omega), updA_same, updA_same, e1, e2]
          exact ⟨rfl, rfl, sv2, c2, l2, s2⟩
        · rw [updA_other e, updA_other e, updA_other e, updA_other (by omega), updA_other (by omega), updA_other (by omega), updA_other (by omega)]
          exact unhide HH i (by omega)
      case measure => simp [intOf]; omega
    · obtain rfl : j = k := by omega
      have HR := hide r
      have HU := hide u
      clear r u
      go_wp2_with fail
      go_ret
      have H := unhide HH
      refine ⟨_, _, vs', bs', ms, rfl, Nat.le_refl _, .inr ⟨_, 0, rfl, fun i hi => ?_⟩, fun i hi => ⟨(H i hi).2.2.1, (H i hi).2.2.2.1.1.1, ?_⟩, unhide HU, fun i hi => (H i hi).2.2.2⟩
      · rw [Nat.zero_add, (unhide HR).cell (i := i * 2) (by omega), (unhide HR).cell (i := i * 2 + 1) (by omega), (H i hi).1, (H i hi).2.1]
        exact ⟨rfl, rfl⟩
      · exact Nat.le_trans (H i hi).2.2.2.2.1 (unhide HL i hi).2.2

def pair {α : Type} (x y : α) : Nat → α := fun i => if i = 0 then x else y

theorem rdn_one (w : World) (v1 : Value) (b1 : Bool) (E : TypeId) : RdN (w.alloc (.cells #[.bool b1, v1] E)) (some ⟨w.heap.size, 0, none⟩) 1 (fun _ => v1) (fun _ => b1) := by
  refine .inr ⟨w.heap.size, 0, rfl, fun i hi => ?_⟩
  rw [cell_of_row _ _ _ _ _ _ (heap_alloc_new w _), cell_of_row _ _ _ _ _ _ (heap_alloc_new w _)]
  match i, hi with
  | 0, _ => exact ⟨rfl, rfl⟩

theorem lsts_two {w : World} {M n1 n2 : Nat} {v1 v2 : Value} {f1 f2 : Nat → Nat} (h1 : Sl .u32 w v1 n1 f1) (h2 : Sl .u32 w v2 n2 f2) (d1 : ∀ i, i < n1 → f1 i < 4294967296) (d2 : ∀ i, i < n2 → f2 i < 4294967296) (l1 : n1 ≤ M) (l2 : n2 ≤ M) :
    Lsts w M 2 (pair v1 v2) (pair n1 n2) (pair f1 f2) := by
  intro j hj
  match j, hj with
  | 0, _ => exact ⟨h1, d1, l1⟩
  | 1, _ => exact ⟨h2, d2, l2⟩

set_option maxRecDepth 4000 in
set_option maxHeartbeats 1000000 in
theorem addz_any (mo : Option Addr) (k capm M : Nat) (vs : Nat → Value) (bs : Nat → Bool) (ns : Nat → Nat) (fs : Nat → Nat → Nat) (w : World) (hm : RdN w mo k vs bs) (hl : Lsts w M k vs ns fs) (hM : 4 * (M + 1) ≤ 281474976710656) (hk : k + 2 ≤ 4294967296) :
    Calls Try.prog 62 #[.slice mo k capm] w fun e w' => ∃ a b n f, e = .returned a ∧ OwnN w' w.heap.size a b n f ∧ Up w w' ∧ CanZ b f n ∧ n ≤ M + 1 ∧ sgn b (num 4294967296 f n) = sumZ (fun i => sgn (bs i) (num 4294967296 (fs i) (ns i))) k := by
  have hm' : RdN (w.alloc (.cells #[.bool false, .slice none 0 0] 45)) mo k vs bs := by
    rcases hm with h | ⟨b, off, rfl, hc⟩
    · exact .inl h
    · by_cases h0 : k = 0
      · exact .inl h0
      · have hb : b < w.heap.size := World.block_lt_of_cell? w _ (hc 0 (by omega)).1
        exact .inr ⟨b, off, rfl, fun i hi => ⟨(Below.cell (up_alloc w _) (p := ⟨b, off + i * 2, none⟩) hb).trans (hc i hi).1, (Below.cell (up_alloc w _) (p := ⟨b, off + i * 2 + 1, none⟩) hb).trans (hc i hi).2⟩⟩
  have HL := hide hl
  clear hl hm
  go_enter Try.func62, Try.ntmps62
  go_wp2_with fail
  refine (workAll_any mo k capm M vs bs ns fs _ hm' ((unhide HL).up (up_alloc w _)) (by omega)).mono ?_
  rintro e w1 ⟨mo1, cap1, vs1, bs1, ms1, rfl, hcap1, rw1, l1, u1, hs1⟩
  have HS1 := hide hs1
  clear hs1 hm'
  go_wp2_with fail
  refine (sum_any mo1 k cap1 M vs1 bs1 ms1 fs _ rw1 (l1.up u1) hcap1 hM hk).mono ?_
  rintro e w2 ⟨a2, b2, n2, f2, rfl, o2, u2, c2, l2, s2⟩
  have HS2 := hide s2
  clear s2
  obtain ⟨v2, rfl, o2⟩ := o2
  obtain ⟨ao2, cap2, rfl, -⟩ := id o2.sl
  go_wp2_with fail
  refine (answer_any _ b2 n2 f2 _ ⟨_, rfl, o2.sl⟩).mono ?_
  rintro e w3 ⟨a3, rfl, h3, u3⟩
  obtain rfl := h3 _ rfl
  obtain ⟨d0, d1, g0, g1, lt, e0, e1⟩ := res2 w.heap.size rfl ((u1.tr u2).tr u3)
  have hz : w.heap.size < w1.heap.size := by have := Below.size u1; simp at this; omega
  go_wp2_with fail
  refine bodyPost_ret (by simp [results, Try.results62, go_sem, e0, e1]; rfl) rfl ?_
  refine ⟨_, b2, n2, f2, rfl, ⟨_, rfl, ((o2.up u3).set2 hz).mono (by omega)⟩, Up.set2 ((up_alloc w _).tr ((u1.tr u2).tr u3)) (Nat.le_refl _), c2, l2, ?_⟩
  rw [unhide HS2]
  exact sumZ_congr (fun i hi => (unhide HS1 i hi).2.2)

/-- One number's sum. -/
theorem addz1 (g : Nat) (v1 : Value) (b1 : Bool) (n1 M : Nat) (f1 : Nat → Nat) (E : TypeId) (w : World) (hg : g = w.heap.size) (h1 : Sl .u32 w v1 n1 f1) (d1 : ∀ i, i < n1 → f1 i < 4294967296) (l1 : n1 ≤ M) (hM : 4 * (M + 1) ≤ 281474976710656) :
    Calls Try.prog 62 #[.slice (some ⟨g, 0, none⟩) 1 1] (w.alloc (.cells #[.bool b1, v1] E)) fun e w' => ∃ a b n f, e = .returned a ∧ OwnN w' w.heap.size a b n f ∧ Up w w' ∧ CanZ b f n ∧ n ≤ M + 1 ∧
      sgn b (num 4294967296 f n) = sgn b1 (num 4294967296 f1 n1) := by
  subst hg
  refine (addz_any _ 1 1 M (fun _ => v1) (fun _ => b1) (fun _ => n1) (fun _ => f1) _ (rdn_one w v1 b1 E) (fun j hj => ⟨h1.up (up_alloc w _), d1, l1⟩) hM (by decide)).mono ?_
  rintro e w' ⟨a, b, n, f, rfl, ⟨v, rfl, o⟩, u, c, l, s⟩
  refine ⟨_, b, n, f, rfl, ⟨_, rfl, o.mono (by simp)⟩, (up_alloc w _).tr u, c, l, ?_⟩
  rw [s]
  simp [sumZ]

theorem Own.cutAt {k : IntKind} {E : TypeId} {w : World} {base : Nat} {ao : Option Addr} {n cap m : Nat} {f : Nat → Nat} (h : Own k E w base (.slice ao n cap) n f) (hm : m ≤ n) : Own k E w base (.slice ao m cap) m f := by
  rcases h with ⟨e, rfl⟩ | ⟨g, cap', e, h1, h2, h3⟩
  · cases e
    obtain rfl : m = 0 := by omega
    exact .inl ⟨rfl, rfl⟩
  · cases e
    exact .inr ⟨g, cap, rfl, h1, h2, h3.mono hm⟩

theorem three_blocks (w : World) (A B C : Obj) : (((w.alloc A).alloc B).alloc C).heap[w.heap.size]? = some A ∧ (((w.alloc A).alloc B).alloc C).heap[w.heap.size + 1]? = some B ∧ (((w.alloc A).alloc B).alloc C).heap[w.heap.size + 1 + 1]? = some C := by
  obtain ⟨h1, h2⟩ := two_blocks w A B
  refine ⟨(Below.heap_alloc _ _ _ (by first | (simp; done) | (simp; omega))).trans h1, (Below.heap_alloc _ _ _ (by first | (simp; done) | (simp; omega))).trans h2, ?_⟩
  have := heap_alloc_new ((w.alloc A).alloc B) C
  simpa using this

/-- Behind k digits: x times h's digits are taken from the row, but for what was borrowed (b) and carried (c). -/
def TakeRel (f h : Nat → Nat) (x off n k : Nat) (f' : Nat → Nat) (b c : Nat) : Prop :=
  b ≤ 1 ∧ c < 4294967296 ∧ (∀ i, ¬ (off ≤ i ∧ i < off + k) → f' i = f i) ∧ (∀ i, i < n → f' (off + i) < 4294967296) ∧
  num 4294967296 (fun i => f' (off + i)) k + x * num 4294967296 h k = num 4294967296 (fun i => f (off + i)) k + (b + c) * 4294967296 ^ k

theorem TakeRel.start {f h : Nat → Nat} {x off n : Nat} (hf : ∀ i, i < n → f (off + i) < 4294967296) : TakeRel f h x off n 0 f 0 0 :=
  ⟨by omega, by omega, fun _ _ => rfl, hf, by simp [num]⟩

theorem take_small {x y c : Nat} (hx : x < 4294967296) (hy : y < 4294967296) (hc : c < 4294967296) : c + y * x < 18446744073709551616 := by
  have : y * x ≤ 4294967295 * 4294967295 := Nat.mul_le_mul (by omega) (by omega)
  omega

theorem TakeRel.step {f h f' : Nat → Nat} {x off n k b c y z d b' : Nat} (r : TakeRel f h x off n k f' b c) (hx : x < 4294967296) (hz : f' (off + k) = z) (hy : h k = y) (hyl : y < 4294967296)
    (hd : d < 4294967296) (hb' : b' ≤ 1) (hs : d + (c + y * x) % 4294967296 + b = z + 4294967296 * b') :
    TakeRel f h x off n (k + 1) (upd f' (off + k) d) b' ((c + y * x) / 4294967296) := by
  obtain ⟨h1, h2, h3, h4, h5⟩ := r
  have hsm := take_small hx hyl h2
  refine ⟨hb', by omega, fun i hi => ?_, fun i hi => ?_, ?_⟩
  · rw [upd_other (by omega)]
    exact h3 i (by omega)
  · by_cases e : i = k
    · rw [e, upd_same]; exact hd
    · rw [upd_other (by omega)]; exact h4 i hi
  · rw [num_succ, num_succ, num_succ, upd_same]
    rw [num_congr (g := fun i => f' (off + i)) (fun i hi => upd_other (by omega))]
    have e1 : f (off + k) = z := by rw [← hz]; exact (h3 _ (by omega)).symm
    rw [e1, hy, Nat.pow_succ]
    generalize 4294967296 ^ k = P at *
    generalize hS : c + y * x = S at *
    have e2 : (d + S % 4294967296 + b) * P = (z + 4294967296 * b') * P := by rw [hs]
    rw [Nat.add_mul, Nat.add_mul, Nat.add_mul] at e2
    have e3 : S % 4294967296 * P + S / 4294967296 * (P * 4294967296) = S * P := by
      rw [Nat.mul_comm P, ← Nat.mul_assoc, ← Nat.add_mul, Nat.mul_comm _ 4294967296, Nat.mod_add_div]
    have e4 : S * P = c * P + y * x * P := by rw [← hS, Nat.add_mul]
    have e5 : x * (num 4294967296 h k + y * P) = x * num 4294967296 h k + y * x * P := by rw [Nat.mul_add, ← Nat.mul_assoc, Nat.mul_comm x y]
    have e6 : (b' + S / 4294967296) * (P * 4294967296) = 4294967296 * b' * P + S / 4294967296 * (P * 4294967296) := by
      rw [Nat.add_mul, Nat.mul_comm 4294967296 b', Nat.mul_assoc, Nat.mul_comm 4294967296 P]
    rw [Nat.add_mul] at h5
    rw [e5, e6]
    omega

/-- The last place takes what was carried. -/
theorem TakeRel.last {f h f' : Nat → Nat} {x off n b c z d b' : Nat} (r : TakeRel f h x off (n + 1) n f' b c) (hz : f' (off + n) = z)
    (hd : d < 4294967296) (hs : d + c + b = z + 4294967296 * b') :
    (∀ i, ¬ (off ≤ i ∧ i < off + (n + 1)) → upd f' (off + n) d i = f i) ∧ (∀ i, i < n + 1 → upd f' (off + n) d (off + i) < 4294967296) ∧
    num 4294967296 (fun i => upd f' (off + n) d (off + i)) (n + 1) + x * num 4294967296 h n = num 4294967296 (fun i => f (off + i)) (n + 1) + b' * 4294967296 ^ (n + 1) := by
  obtain ⟨h1, h2, h3, h4, h5⟩ := r
  refine ⟨fun i hi => ?_, fun i hi => ?_, ?_⟩
  · rw [upd_other (by omega)]
    exact h3 i (by omega)
  · by_cases e : i = n
    · rw [e, upd_same]; exact hd
    · rw [upd_other (by omega)]; exact h4 i hi
  · rw [num_succ, num_succ, upd_same]
    rw [num_congr (g := fun i => f' (off + i)) (fun i hi => upd_other (by omega))]
    have e1 : f (off + n) = z := by rw [← hz]; exact (h3 _ (by omega)).symm
    rw [e1, Nat.pow_succ]
    generalize 4294967296 ^ n = P at *
    have e2 : (d + c + b) * P = (z + 4294967296 * b') * P := by rw [hs]
    rw [Nat.add_mul, Nat.add_mul, Nat.add_mul] at e2
    have e3 : 4294967296 * b' * P = b' * (P * 4294967296) := by rw [Nat.mul_comm 4294967296 b', Nat.mul_assoc, Nat.mul_comm 4294967296 P]
    rw [Nat.add_mul] at h5
    omega

/-- The memory is the same; at the most something was drawn. -/
structure Still (w w' : World) : Prop where
  os : w'.os = w.os
  tape : w'.tape = w.tape
  output : w'.output = w.output
  heap : w'.heap = w.heap

theorem Still.refl (w : World) : Still w w := ⟨rfl, rfl, rfl, rfl⟩

theorem Still.drew {w w' : World} (h : Still w w') : Still w w'.drew := ⟨h.os, h.tape, h.output, h.heap⟩

/-- q is the quotient; where the loop stands: first times the guess, and what is left, make the head; the guess is not below q. -/
def GuessRel (first head q g l : Nat) : Prop := g * first + l = head ∧ q ≤ g ∧ l < 4294967296

theorem GuessRel.ok {first second head next g l : Nat} (h1 : g * first + l = head) (hc : g * second ≤ l * 4294967296 + next) : g * (first * 4294967296 + second) ≤ head * 4294967296 + next := by
  rw [Nat.mul_add, ← Nat.mul_assoc, ← h1, Nat.add_mul]
  omega

theorem GuessRel.out {first second head next g l : Nat} (h1 : g * first + l = head) (hl : 4294967296 ≤ l) (hs : second < 4294967296) (hh : head < first * 4294967296 + 4294967296) :
    g < 4294967296 ∧ g * second ≤ l * 4294967296 + next := by
  have hg : g < 4294967296 := by
    apply Nat.lt_of_not_le
    intro hle
    have : 4294967296 * first ≤ g * first := Nat.mul_le_mul_right _ hle
    omega
  refine ⟨hg, ?_⟩
  have h2 : g * second ≤ 4294967296 * 4294967296 := Nat.mul_le_mul (by omega) (by omega)
  have h3 : 4294967296 * 4294967296 ≤ l * 4294967296 := Nat.mul_le_mul_right _ hl
  omega

theorem pow_split (s : Nat) (h : s < 32) : 2 ^ s * 2 ^ (32 - s) = 4294967296 := by
  rw [← Nat.pow_add, show s + (32 - s) = 32 from by omega]

/-- Behind k limbs: f's first k limbs times t, the carry in place k. -/
def ShlRel (f : Nat → Nat) (t k : Nat) (f' : Nat → Nat) : Prop :=
  num 4294967296 f' (k + 1) = num 4294967296 f k * t ∧ f' k < t ∧ (∀ i, i ≤ k → f' i < 4294967296) ∧ (∀ i, k < i → f' i = 0)

theorem lo_join (s x c : Nat) (hs : s < 32) (hc : c < 2 ^ s) : c ||| (x * 2 ^ s % 4294967296) = c + x * 2 ^ s % 4294967296 ∧ c + x * 2 ^ s % 4294967296 < 4294967296 := by
  have hd : 2 ^ s ∣ 4294967296 := ⟨2 ^ (32 - s), (pow_split s hs).symm⟩
  have hm : x * 2 ^ s % 4294967296 % 2 ^ s = 0 := by
    rw [Nat.mod_mod_of_dvd _ hd, Nat.mul_mod_left]
  refine ⟨?_, ?_⟩
  · rw [Nat.or_comm, nat_join s _ _ hm hc, Nat.add_comm]
  · have hl : x * 2 ^ s % 4294967296 < 4294967296 := Nat.mod_lt _ (by decide)
    obtain ⟨a, ha⟩ := Nat.dvd_of_mod_eq_zero hm
    have hp := pow_split s hs
    rw [ha] at hl ⊢
    rw [← hp] at hl ⊢
    have h1 : a < 2 ^ (32 - s) := Nat.lt_of_mul_lt_mul_left hl
    have h2 : 2 ^ s * (a + 1) ≤ 2 ^ s * 2 ^ (32 - s) := Nat.mul_le_mul_left _ h1
    rw [Nat.mul_add, Nat.mul_one] at h2
    omega

theorem ShlRel.step {f f' : Nat → Nat} {s k x c : Nat} (hs : s < 32) (r : ShlRel f (2 ^ s) k f') (hx : f k = x) (hxl : x < 4294967296) (hc : f' k = c) :
    ShlRel f (2 ^ s) (k + 1) (upd (upd f' k (c + x * 2 ^ s % 4294967296)) (k + 1) (x * 2 ^ s / 4294967296)) := by
  obtain ⟨h1, h2, h3, h4⟩ := r
  have hj := lo_join s x c hs (by rw [← hc]; exact h2)
  have hhi : x * 2 ^ s / 4294967296 < 2 ^ s := by
    rw [Nat.div_lt_iff_lt_mul (by decide), Nat.mul_comm]
    exact Nat.mul_lt_mul_of_pos_left hxl (Nat.two_pow_pos s)
  have hsp : 2 ^ s ≤ 4294967296 := by
    have := Nat.pow_le_pow_right (n := 2) (by decide) (show s ≤ 32 by omega)
    exact this
  refine ⟨?_, ?_, fun i hi => ?_, fun i hi => ?_⟩
  · rw [num_succ, num_succ, upd_same, upd_other (by omega), upd_same]
    rw [num_congr (g := f') (fun i hi => by rw [upd_other (by omega), upd_other (by omega)])]
    rw [num_succ, hc] at h1
    have g : (num 4294967296 f k + x * 4294967296 ^ k) * 2 ^ s = num 4294967296 f k * 2 ^ s + x * 2 ^ s * 4294967296 ^ k := by
      rw [Nat.add_mul, Nat.mul_assoc x, Nat.mul_comm (4294967296 ^ k), ← Nat.mul_assoc]
    rw [num_succ, hx, g, ← h1, Nat.pow_succ]
    clear g
    generalize 4294967296 ^ k = P
    generalize x * 2 ^ s = Y at *
    have e : Y % 4294967296 * P + Y / 4294967296 * (P * 4294967296) = Y * P := by
      rw [Nat.mul_comm P, ← Nat.mul_assoc, ← Nat.add_mul, Nat.mul_comm _ 4294967296, Nat.mod_add_div]
    rw [Nat.add_mul c]
    omega
  · rw [upd_same]; exact hhi
  · by_cases e : i = k + 1
    · rw [e, upd_same]; omega
    · rw [upd_other e]
      by_cases e2 : i = k
      · rw [e2, upd_same]; exact hj.2
      · rw [upd_other e2]; exact h3 i (by omega)
  · rw [upd_other (by omega), upd_other (by omega)]
    exact h4 i (by omega)

/-- Behind k limbs of a right shift. -/
def ShrRel (a : Nat → Nat) (t k : Nat) (f' : Nat → Nat) : Prop :=
  t * num 4294967296 f' k + a 0 % t = num 4294967296 a k + a k % t * 4294967296 ^ k ∧ (∀ i, i < k → f' i < 4294967296)

theorem shr_word (s x y : Nat) (hs : s < 32) : (x + y * 4294967296) / 2 ^ s % 4294967296 = (x / 2 ^ s + y % 2 ^ s * 2 ^ (32 - s)) % 4294967296 := by
  have hp := pow_split s hs
  have e1 : (x + y * 4294967296) / 2 ^ s = x / 2 ^ s + y * 2 ^ (32 - s) := by
    rw [← hp, show x + y * (2 ^ s * 2 ^ (32 - s)) = x + 2 ^ s * (y * 2 ^ (32 - s)) from by rw [← Nat.mul_assoc, Nat.mul_comm y, Nat.mul_assoc], Nat.add_mul_div_left _ _ (Nat.two_pow_pos s)]
  rw [e1]
  have e2 : y * 2 ^ (32 - s) = y / 2 ^ s * 4294967296 + y % 2 ^ s * 2 ^ (32 - s) := by
    rw [← hp, ← Nat.mul_assoc, ← Nat.add_mul, Nat.mul_comm _ (2 ^ s), Nat.div_add_mod]
  rw [e2]
  omega

theorem ShrRel.step {a f' : Nat → Nat} {s k x y : Nat} (hs : s < 32) (r : ShrRel a (2 ^ s) k f') (hx : a k = x) (hy : a (k + 1) = y) (hxl : x < 4294967296) :
    ShrRel a (2 ^ s) (k + 1) (upd f' k ((x + y * 4294967296) / 2 ^ s % 4294967296)) := by
  obtain ⟨h1, h2⟩ := r
  have hp := pow_split s hs
  have hpos := Nat.two_pow_pos s
  have hlt : x / 2 ^ s + y % 2 ^ s * 2 ^ (32 - s) < 4294967296 := by
    have h3 : x / 2 ^ s < 2 ^ (32 - s) := by
      rw [Nat.div_lt_iff_lt_mul hpos, Nat.mul_comm, hp]
      exact hxl
    have h4 : (y % 2 ^ s + 1) * 2 ^ (32 - s) ≤ 2 ^ s * 2 ^ (32 - s) := Nat.mul_le_mul_right _ (Nat.mod_lt _ hpos)
    rw [Nat.add_mul, Nat.one_mul, hp] at h4
    omega
  rw [shr_word s x y hs, Nat.mod_eq_of_lt hlt]
  refine ⟨?_, fun i hi => ?_⟩
  · rw [num_succ, num_succ, upd_same, num_congr (g := f') (fun i hi => upd_other (by omega)), hx, hy, Nat.mul_add]
    rw [hx] at h1
    have e1 := Nat.div_add_mod x (2 ^ s)
    have e2 : 2 ^ s * ((x / 2 ^ s + y % 2 ^ s * 2 ^ (32 - s)) * 4294967296 ^ k) = (2 ^ s * (x / 2 ^ s)) * 4294967296 ^ k + y % 2 ^ s * 4294967296 ^ (k + 1) := by
      have ea : ∀ T C P u v : Nat, T * ((u + v * C) * P) = T * u * P + v * (P * (T * C)) := by
        intro T C P u v
        rw [Nat.add_mul, Nat.mul_add, Nat.mul_assoc T u P]
        congr 1
        ac_rfl
      rw [ea, hp, Nat.pow_succ]
    rw [e2]
    have e3 : x * 4294967296 ^ k = (2 ^ s * (x / 2 ^ s)) * 4294967296 ^ k + x % 2 ^ s * 4294967296 ^ k := by rw [← Nat.add_mul, e1]
    omega
  · by_cases e : i = k
    · rw [e, upd_same]; exact hlt
    · rw [upd_other e]; exact h2 i (by omega)

theorem num_top2 (B : Nat) (G : Nat → Nat) (j m : Nat) (h : j < m) : num B (fun i => G (j + i)) (m - j) = G j + B * num B (fun i => G (j + 1 + i)) (m - (j + 1)) := by
  rw [show m - j = m - (j + 1) + 1 from by omega, num_head, Nat.add_zero]
  rw [num_congr (f := fun i => G (j + (1 + i))) (g := fun i => G (j + 1 + i)) (fun i _ => by rw [← Nat.add_assoc])]

/-- Where the quotient's limbs from j on are found: A is those times D, and what the rest holds. -/
def LongRel (A D n m j : Nat) (qf rf : Nat → Nat) : Prop :=
  num 4294967296 rf (n + m) < D * 4294967296 ^ j ∧ A = num 4294967296 (fun i => qf (j + i)) (m - j) * D * 4294967296 ^ j + num 4294967296 rf (n + m) ∧
  (∀ i, i < n + m → rf i < 4294967296) ∧ (∀ i, j ≤ i → i < m → qf i < 4294967296)

theorem LongRel.parts {A D n m j : Nat} {qf rf : Nat → Nat} (r : LongRel A D n m (j + 1) qf rf) (hj : j < m) (hD : D < 4294967296 ^ n) :
    num 4294967296 (fun i => rf (j + i)) (n + 1) < D * 4294967296 ∧ (∀ i, j + (n + 1) ≤ i → i < n + m → rf i = 0) ∧
    num 4294967296 rf (n + m) = num 4294967296 rf j + 4294967296 ^ j * num 4294967296 (fun i => rf (j + i)) (n + 1) := by
  obtain ⟨h1, h2, h3, h4⟩ := r
  have e1 : n + m = (j + (n + 1)) + (m - (j + 1)) := by omega
  have hsp : num 4294967296 rf (n + m) = num 4294967296 rf (j + (n + 1)) + 4294967296 ^ (j + (n + 1)) * num 4294967296 (fun i => rf (j + (n + 1) + i)) (m - (j + 1)) := by
    rw [show num 4294967296 rf (n + m) = num 4294967296 rf ((j + (n + 1)) + (m - (j + 1))) from by rw [← e1], num_split]
  have hz : num 4294967296 (fun i => rf (j + (n + 1) + i)) (m - (j + 1)) = 0 := by
    apply Nat.eq_zero_of_not_pos
    intro hpos
    have h5 : 4294967296 ^ (j + (n + 1)) * 1 ≤ 4294967296 ^ (j + (n + 1)) * num 4294967296 (fun i => rf (j + (n + 1) + i)) (m - (j + 1)) := Nat.mul_le_mul_left _ hpos
    have h6 : D * 4294967296 ^ (j + 1) ≤ 4294967296 ^ n * 4294967296 ^ (j + 1) := Nat.mul_le_mul_right _ (Nat.le_of_lt hD)
    rw [← Nat.pow_add, show n + (j + 1) = j + (n + 1) from by omega] at h6
    omega
  have hzz : ∀ i, i < m - (j + 1) → rf (j + (n + 1) + i) = 0 := by
    have := num_inj (B := 4294967296) (f := fun i => rf (j + (n + 1) + i)) (g := fun _ => 0) (n := m - (j + 1)) (fun i hi => h3 _ (by omega)) (fun _ _ => by decide)
      (by rw [hz, num_tail (n := 0) (by omega) (fun _ _ _ => rfl)]; rfl)
    exact this
  have hval : num 4294967296 rf (n + m) = num 4294967296 rf j + 4294967296 ^ j * num 4294967296 (fun i => rf (j + i)) (n + 1) := by
    rw [hsp, hz, Nat.mul_zero, Nat.add_zero, num_split]
  refine ⟨?_, fun i h5 h6 => ?_, hval⟩
  · have h5 : 4294967296 ^ j * num 4294967296 (fun i => rf (j + i)) (n + 1) < 4294967296 ^ j * (D * 4294967296) := by
      rw [Nat.pow_succ] at h1
      have : D * (4294967296 ^ j * 4294967296) = 4294967296 ^ j * (D * 4294967296) := by ac_rfl
      omega
    exact Nat.lt_of_mul_lt_mul_left h5
  · have := hzz (i - (j + (n + 1))) (by omega)
    rwa [show j + (n + 1) + (i - (j + (n + 1))) = i from by omega] at this

theorem LongRel.step {A D n m j q U' : Nat} {qf rf f' : Nat → Nat} (r : LongRel A D n m (j + 1) qf rf) (hj : j < m) (hD : D < 4294967296 ^ n) (hq : q < 4294967296)
    (ho : ∀ i, ¬ (j ≤ i ∧ i < j + (n + 1)) → f' i = rf i) (hd : ∀ i, i < n + 1 → f' (j + i) < 4294967296)
    (hU : num 4294967296 (fun i => f' (j + i)) (n + 1) = U') (hUq : U' + q * D = num 4294967296 (fun i => rf (j + i)) (n + 1)) (hUD : U' < D) :
    LongRel A D n m j (upd qf j q) f' := by
  obtain ⟨p1, p2, p3⟩ := r.parts hj hD
  obtain ⟨h1, h2, h3, h4⟩ := r
  have hv : num 4294967296 f' (n + m) = num 4294967296 rf j + 4294967296 ^ j * U' := by
    rw [num_tail (n := j + (n + 1)) (by omega) (fun i h5 h6 => by rw [ho i (by omega)]; exact p2 i h5 h6), num_split, hU]
    rw [num_congr (f := f') (g := rf) (n := j) (fun i hi => ho i (by omega))]
  have hlo : num 4294967296 rf j < 4294967296 ^ j := num_lt (fun i hi => h3 i (by omega))
  refine ⟨?_, ?_, fun i hi => ?_, fun i h5 h6 => ?_⟩
  · rw [hv]
    have : 4294967296 ^ j * (U' + 1) ≤ 4294967296 ^ j * D := Nat.mul_le_mul_left _ hUD
    rw [Nat.mul_add, Nat.mul_one] at this
    rw [Nat.mul_comm D]
    omega
  · rw [hv, num_top2 4294967296 (upd qf j q) j m hj, upd_same]
    rw [num_congr (f := fun i => upd qf j q (j + 1 + i)) (g := fun i => qf (j + 1 + i)) (fun i _ => upd_other (by omega))]
    rw [h2, p3, ← hUq, Nat.pow_succ]
    generalize num 4294967296 (fun i => qf (j + 1 + i)) (m - (j + 1)) = Q
    generalize 4294967296 ^ j = P
    generalize num 4294967296 rf j = lo
    have e1 : (q + 4294967296 * Q) * D * P = q * D * P + Q * D * (P * 4294967296) := by
      rw [Nat.add_mul, Nat.add_mul]
      congr 1
      ac_rfl
    have e2 : P * (U' + q * D) = P * U' + q * D * P := by rw [Nat.mul_add, Nat.mul_comm P (q * D)]
    rw [e1, e2]
    omega
  · by_cases e : j ≤ i ∧ i < j + (n + 1)
    · have := hd (i - j) (by omega)
      rwa [show j + (i - j) = i from by omega] at this
    · rw [ho i e]; exact h3 i hi
  · by_cases e : i = j
    · rw [e, upd_same]; exact hq
    · rw [upd_other e]; exact h4 i (by omega) h6

theorem LongRel.done {A D n m : Nat} {qf rf : Nat → Nat} (r : LongRel A D n m 0 qf rf) (hD : D < 4294967296 ^ n) :
    num 4294967296 rf n < D ∧ A = num 4294967296 qf m * D + num 4294967296 rf n := by
  obtain ⟨h1, h2, h3, h4⟩ := r
  have e0 : ∀ q : Nat → Nat, (fun i => q (0 + i)) = q := fun q => by funext i; rw [Nat.zero_add]
  rw [e0, Nat.sub_zero, Nat.pow_zero, Nat.mul_one] at h2
  rw [Nat.pow_zero, Nat.mul_one] at h1
  have hn : num 4294967296 rf (n + m) = num 4294967296 rf n := by
    rw [num_split]
    have : num 4294967296 (fun i => rf (n + i)) m = 0 := by
      apply Nat.eq_zero_of_not_pos
      intro hpos
      have h5 : 4294967296 ^ n * 1 ≤ 4294967296 ^ n * num 4294967296 (fun i => rf (n + i)) m := Nat.mul_le_mul_left _ hpos
      rw [num_split] at h1
      omega
    rw [this, Nat.mul_zero, Nat.add_zero]
  rw [hn] at h1 h2
  exact ⟨h1, h2⟩

theorem Still.below {B : Nat} {a w w' : World} (hb : Below B a w) (s : Still w w') : Below B a w' := hb.trans ⟨s.os, s.tape, s.output, by rw [s.heap]; exact Nat.le_refl _, fun k _ => by rw [s.heap]⟩

theorem Only.row {k : IntKind} {E : TypeId} {w w' : World} {g g2 N n : Nat} {f : Nat → Nat} (h : RowAt k E w g2 N n f) (o : Only g w w') (hne : g2 ≠ g) : RowAt k E w' g2 N n f := h.block (o.block g2 hne)

end Go.Proofs.Ytchdfenickjiiaa
