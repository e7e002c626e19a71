/-
  What is proved here: num.numberOf cuts the noughts at the end off and keeps the sign of what is not 0; num.work and num.answer turn numbers into what is worked at and back. what the statements of num share: tandemlaw02.c copies a number, tandemlaw02.same tells that two numbers are the same.
-/
import Derived.Test.YtjbocfhmfidjjaaDoorUp0
import Derived.Handy
import Derived.Deep.RegionWith
namespace Go.Proofs.YtjbocfhmfidjjaaDoor
open Go Go.RowKit

theorem cells2 {w : World} {g : Nat} {c0 c1 : Value} {E : TypeId} (h : w.heap[g]? = some (.cells #[c0, c1] E (0, 0))) :
    w.cell? ⟨g, 0, none⟩ = some c0 ∧ w.cell? ⟨g, 1, none⟩ = some c1 ∧ w.frozen? ⟨g, 0, none⟩ = false ∧ w.frozen? ⟨g, 1, none⟩ = false ∧ g < w.heap.size :=
  ⟨by rw [cell_of_row w g 0 _ E (0, 0) h]; rfl, by rw [cell_of_row w g 1 _ E (0, 0) h]; rfl, frozen_of_row w g 0 _ E h, frozen_of_row w g 1 _ E h, (Array.getElem?_eq_some_iff.1 h).1⟩

theorem up_alloc (w : World) (o : Obj) : Up w (w.alloc o) := below_alloc w o
theorem Up.blk {W w1 : World} {g : Nat} {o : Obj} (u : Up W w1) (h : W.heap[g]? = some o) : w1.heap[g]? = some o :=
  (Below.block u g (Array.getElem?_eq_some_iff.1 h).1).trans h
/-- What was just set is read. -/
theorem back2 {w1 : World} {g : Nat} {c0 c1 : Value} {E : TypeId} (h : w1.heap[g]? = some (.cells #[c0, c1] E (0, 0))) :
    (∀ x, (w1.setCell ⟨g, 0, none⟩ x).cell? ⟨g, 0, none⟩ = some x) ∧ ∀ x y, ((w1.setCell ⟨g, 0, none⟩ x).setCell ⟨g, 1, none⟩ y).cell? ⟨g, 1, none⟩ = some y := by
  have h1 := fun x => heap_setCell_same w1 g 0 _ E x h
  have h2 := fun x y => heap_setCell_same (w1.setCell ⟨g, 0, none⟩ x) g 1 _ E y (h1 x)
  exact ⟨fun x => by rw [cell_of_row _ g 0 _ E (0, 0) (h1 x)]; rfl, fun x y => by rw [cell_of_row _ g 1 _ E (0, 0) (h2 x y)]; rfl⟩
/-- The block that was laid last ahead of a call, behind it. -/
theorem res2 {V w1 : World} {c0 c1 : Value} {E : TypeId} (g : Nat) (hg : g = V.heap.size) (u : Up (V.alloc (.cells #[c0, c1] E)) w1) :
    w1.cell? ⟨g, 0, none⟩ = some c0 ∧ w1.cell? ⟨g, 1, none⟩ = some c1 ∧ w1.frozen? ⟨g, 0, none⟩ = false ∧ w1.frozen? ⟨g, 1, none⟩ = false ∧ g < w1.heap.size ∧
      (∀ x, (w1.setCell ⟨g, 0, none⟩ x).cell? ⟨g, 0, none⟩ = some x) ∧ ∀ x y, ((w1.setCell ⟨g, 0, none⟩ x).setCell ⟨g, 1, none⟩ y).cell? ⟨g, 1, none⟩ = some y := by
  subst hg
  obtain ⟨h1, h2, h3, h4, h5⟩ := cells2 (u.blk (heap_alloc_new V _))
  exact ⟨h1, h2, h3, h4, h5, back2 (u.blk (heap_alloc_new V _))⟩

set_option maxRecDepth 4000 in
set_option maxHeartbeats 1000000 in
theorem numberOf_any (ao : Option Addr) (n cap : Nat) (f : Nat → Nat) (b : Bool) (w : World) (h : Rd .u32 w ao n f) (hnc : n ≤ cap) (hm : cap ≤ 9223372036854775807) :
    Calls Tryd.prog 59 #[.slice ao n cap, .bool b] w fun e w' => ∃ m, m ≤ n ∧ e = .returned (.agg #[.slice ao m cap, .bool (b && !decide (m = 0))]) ∧ Up w w' ∧ (∀ i, m ≤ i → i < n → f i = 0) ∧ (m = 0 ∨ f (m - 1) ≠ 0) := by
  rcases h with rfl | ⟨bl, off, rfl, hc⟩
  · cases b <;>
    · go_enter Tryd.func59, Tryd.ntmps59
      go_wp2
      refine wp_loop_rounds 1 ?_
      rw [rounds_succ]
      go_wp2
      go_returns
      exact ⟨0, Nat.le_refl _, by simp, below_alloc w _, fun i h1 h2 => by omega, .inl rfl⟩
  · by_cases hn0 : n = 0
    · subst hn0
      cases b <;>
      · go_enter Tryd.func59, Tryd.ntmps59
        go_wp2
        refine wp_loop_rounds 1 ?_
        rw [rounds_succ]
        go_wp2
        go_returns
        exact ⟨0, Nat.le_refl _, by simp, below_alloc w _, fun i h1 h2 => by omega, .inl rfl⟩
    have hbl := Rd.lt hc (by omega)
    go_enter Tryd.func59, Tryd.ntmps59
    go_wp2
    go_loop [5] (fun t => ∃ k : Nat, k ≤ n ∧ t = .int .i64 k ∧ ∀ i, k ≤ i → i < n → f i = 0) (fun t => (intOf t).toNat)
    case atStart => exact ⟨n, Nat.le_refl _, rfl, fun i h1 h2 => by omega⟩
    case round =>
      obtain ⟨k, hk, rfl, hz⟩ := hrel
      by_cases hk0 : 0 < k
      · have hx := hc (k - 1) (by omega)
        clear hc
        by_cases he : f (k - 1) = 0
        · have HE : Hid (f (k - 1) = 0) := he
          rw [he] at hx
          clear he
          go_wp2
          go_round
          case rel => exact ⟨k - 1, by omega, by go_num, fun i h1 h2 => by
            by_cases e : i = k - 1
            · rw [e]; exact HE.out
            · exact hz i (by omega) h2⟩
          case measure => simp [intOf]; omega
        · have hb : ((f (k - 1) : Int) == 0) = false := by simp; omega
          generalize hy : f (k - 1) = y at *
          have HE := hide hy
          clear hy
          have hkz : ((k : Int) == 0) = false := by simp; omega
          cases b <;>
          · go_wp2
            go_returns
            exact ⟨k, hk, by first | (simp; done) | (simp; omega), below_alloc w _, hz, .inr (by rw [unhide HE]; exact he)⟩
      · have e0 : k = 0 := by omega
        subst e0
        cases b <;>
        · go_wp2
          go_returns
          exact ⟨0, by omega, by simp, below_alloc w _, hz, .inl rfl⟩

/-- A number (api.Num) that is handed about: its sign, and its limbs. -/
def Nm (w : World) (a : Value) (b : Bool) (n : Nat) (f : Nat → Nat) : Prop := ∃ v, a = .agg #[.bool b, v] ∧ Sl .u32 w v n f
/-- A number that is worked at. -/
def Wk (w : World) (a : Value) (b : Bool) (n : Nat) (f : Nat → Nat) : Prop := ∃ v, a = .agg #[v, .bool b] ∧ Sl .u32 w v n f
theorem Nm.up {w w' : World} {a : Value} {b : Bool} {n : Nat} {f : Nat → Nat} (h : Nm w a b n f) (u : Up w w') : Nm w' a b n f := by
  obtain ⟨v, e, s⟩ := h
  exact ⟨v, e, s.up u⟩
theorem Wk.up {w w' : World} {a : Value} {b : Bool} {n : Nat} {f : Nat → Nat} (h : Wk w a b n f) (u : Up w w') : Wk w' a b n f := by
  obtain ⟨v, e, s⟩ := h
  exact ⟨v, e, s.up u⟩
/-- What a number says. -/
def sgn (b : Bool) (x : Nat) : Int := if b then -(x : Int) else x
/-- Canonical: no limb 0 at the end, 0 without its sign. -/
def CanZ (b : Bool) (f : Nat → Nat) (n : Nat) : Prop := Can 4294967296 f n ∧ (b = true → n ≠ 0)
theorem CanZ.of {b : Bool} {f : Nat → Nat} {n : Nat} (h : Can 4294967296 f n) : CanZ (b && !decide (n = 0)) f n :=
  ⟨h, fun e => by simp at e; exact e.2⟩
theorem sgn_cut {b : Bool} {f : Nat → Nat} {n : Nat} : sgn (b && !decide (n = 0)) (num 4294967296 f n) = sgn b (num 4294967296 f n) := by
  by_cases h : n = 0
  · subst h
    simp [sgn, num]
  · simp [h]

theorem Sl.cutAt {k : IntKind} {w : World} {ao : Option Addr} {n cap m : Nat} {f : Nat → Nat} (h : Sl k w (.slice ao n cap) n f) (hm : m ≤ n) : Sl k w (.slice ao m cap) m f := by
  obtain ⟨ao', cap', e, h1, h2, h0, h3⟩ := h
  cases e
  exact ⟨ao, cap, rfl, by omega, h2, h0, h3.mono hm⟩
theorem Sl.rd {k : IntKind} {w : World} {ao : Option Addr} {n cap : Nat} {f : Nat → Nat} (h : Sl k w (.slice ao n cap) n f) : Rd k w ao n f ∧ n ≤ cap ∧ cap ≤ 9223372036854775807 := by
  obtain ⟨ao', cap', e, h1, h2, h0, h3⟩ := h
  cases e
  exact ⟨h3, h1, h2⟩

/-- A number of limbs, in their memory. -/
theorem numberOf_sl (v : Value) (n : Nat) (f : Nat → Nat) (b : Bool) (w : World) (hv : Sl .u32 w v n f) (hd : ∀ i, i < n → f i < 4294967296) :
    Calls Tryd.prog 59 #[v, .bool b] w fun e w' => ∃ a b' m, e = .returned a ∧ Wk w a b' m f ∧ Up w w' ∧ CanZ b' f m ∧ m ≤ n ∧ sgn b' (num 4294967296 f m) = sgn b (num 4294967296 f n) := by
  obtain ⟨ao, cap, rfl, -⟩ := id hv
  obtain ⟨h3, h1, h2⟩ := hv.rd
  refine (numberOf_any ao n cap f b w h3 h1 h2).mono ?_
  rintro e w' ⟨m, hm, rfl, u, hz, ht⟩
  refine ⟨_, _, m, rfl, ⟨_, rfl, hv.cutAt hm⟩, u, CanZ.of ⟨fun i hi => hd i (by omega), ht⟩, hm, ?_⟩
  rw [sgn_cut, num_tail hm hz]

/-- Two cells of a block from 'base' on turned. -/
theorem Up.set2 {w w1 : World} {g : Nat} {x y : Value} (u : Up w w1) (hg : w.heap.size ≤ g) : Up w ((w1.setCell ⟨g, 0, none⟩ x).setCell ⟨g, 1, none⟩ y) :=
  Below.setCell (p := ⟨g, 1, none⟩) (Below.setCell (p := ⟨g, 0, none⟩) u hg x) hg y

set_option maxRecDepth 4000 in
set_option maxHeartbeats 1000000 in
theorem work_any (a : Value) (b : Bool) (n : Nat) (f : Nat → Nat) (w : World) (hv : Nm w a b n f) (hd : ∀ i, i < n → f i < 4294967296) :
    Calls Tryd.prog 56 #[a] w fun e w' => ∃ a' b' m, e = .returned a' ∧ (∀ w0, Nm w0 a b n f → Wk w0 a' b' m f) ∧ Up w w' ∧ CanZ b' f m ∧ m ≤ n ∧ sgn b' (num 4294967296 f m) = sgn b (num 4294967296 f n) := by
  obtain ⟨v, rfl, hv⟩ := hv
  obtain ⟨ao, cap, rfl, -⟩ := id hv
  obtain ⟨h3, h1, h2⟩ := ((hv.up (below_alloc w _)).up (below_alloc _ _)).rd
  go_enter Tryd.func56, Tryd.ntmps56
  go_wp2_with fail
  refine (numberOf_any ao n cap f b _ h3 h1 h2).mono ?_
  rintro e w1 ⟨m, hm, rfl, u1, hz, ht⟩
  obtain ⟨c0, c1, f0, f1, lt, e0, e1⟩ := res2 (w.heap.size + 1) (by simp) u1
  go_wp2_with fail
  refine bodyPost_ret (by simp [results, Tryd.results56, go_sem, e0, e1]; rfl) rfl ?_
  refine ⟨_, _, m, rfl, (fun w0 h => by obtain ⟨v, e, hv⟩ := h; cases e; exact ⟨_, rfl, hv.cutAt hm⟩), Up.set2 (((up_alloc w _).tr (up_alloc _ _)).tr u1) (by omega), CanZ.of ⟨fun i hi => hd i (by omega), ht⟩, hm, ?_⟩
  rw [sgn_cut, num_tail hm hz]

set_option maxRecDepth 4000 in
set_option maxHeartbeats 1000000 in
theorem turned_any (a : Value) (b : Bool) (n : Nat) (f : Nat → Nat) (w : World) (hv : Wk w a b n f) (hc : Can 4294967296 f n) :
    Calls Tryd.prog 60 #[a] w fun e w' => ∃ a' b', e = .returned a' ∧ (∀ w0, Wk w0 a b n f → Wk w0 a' b' n f) ∧ Up w w' ∧ CanZ b' f n ∧ sgn b' (num 4294967296 f n) = - sgn b (num 4294967296 f n) := by
  obtain ⟨v, rfl, hv⟩ := hv
  obtain ⟨ao, cap, rfl, -⟩ := id hv
  obtain ⟨h3, h1, h2⟩ := ((hv.up (below_alloc w _)).up (below_alloc _ _)).rd
  go_enter Tryd.func60, Tryd.ntmps60
  go_wp2_with fail
  refine (numberOf_any ao n cap f (!b) _ h3 h1 h2).mono ?_
  rintro e w1 ⟨m, hm, rfl, u1, hz, ht⟩
  obtain rfl : m = n := by
    rcases Nat.lt_or_ge m n with hl | hl
    · exact absurd (hz (n - 1) (by omega) (by omega)) (by rcases hc.2 with h | h; omega; exact h)
    · omega
  obtain ⟨c0, c1, f0, f1, lt, e0, e1⟩ := res2 (w.heap.size + 1) (by simp) u1
  go_wp2_with fail
  refine bodyPost_ret (by simp [results, Tryd.results60, go_sem, e0, e1]; rfl) rfl ?_
  refine ⟨_, _, rfl, (fun w0 h => by obtain ⟨v, e, hv⟩ := h; cases e; exact ⟨_, rfl, hv⟩), Up.set2 (((up_alloc w _).tr (up_alloc _ _)).tr u1) (by omega), CanZ.of hc, ?_⟩
  rw [sgn_cut]
  cases b <;> simp [sgn]

set_option maxRecDepth 4000 in
set_option maxHeartbeats 1000000 in
theorem answer_any (a : Value) (b : Bool) (n : Nat) (f : Nat → Nat) (w : World) (hv : Wk w a b n f) :
    Calls Tryd.prog 50 #[a] w fun e w' => ∃ a', e = .returned a' ∧ (∀ v, a = .agg #[v, .bool b] → a' = .agg #[.bool b, v]) ∧ Up w w' := by
  obtain ⟨v, rfl, hv⟩ := hv
  obtain ⟨ao, cap, rfl, -⟩ := id hv
  go_enter Tryd.func50, Tryd.ntmps50
  go_wp2_with fail
  go_returns
  exact ⟨_, rfl, (fun v e => by cases e; rfl), (up_alloc w _).tr (up_alloc _ _)⟩

/-- A number in memory of the call's own. -/
def OwnN (w : World) (base : Nat) (a : Value) (b : Bool) (n : Nat) (f : Nat → Nat) : Prop := ∃ v, a = .agg #[.bool b, v] ∧ Own .u32 64 w base v n f
def OwnW (w : World) (base : Nat) (a : Value) (b : Bool) (n : Nat) (f : Nat → Nat) : Prop := ∃ v, a = .agg #[v, .bool b] ∧ Own .u32 64 w base v n f
theorem OwnN.nm {w : World} {base : Nat} {a : Value} {b : Bool} {n : Nat} {f : Nat → Nat} (h : OwnN w base a b n f) : Nm w a b n f := by
  obtain ⟨v, e, o⟩ := h
  exact ⟨v, e, o.sl⟩
theorem OwnW.wk {w : World} {base : Nat} {a : Value} {b : Bool} {n : Nat} {f : Nat → Nat} (h : OwnW w base a b n f) : Wk w a b n f := by
  obtain ⟨v, e, o⟩ := h
  exact ⟨v, e, o.sl⟩
theorem Own.set2 {k : IntKind} {E : TypeId} {w : World} {base g : Nat} {v x y : Value} {n : Nat} {f : Nat → Nat} (h : Own k E w base v n f) (hg : g < base) : Own k E ((w.setCell ⟨g, 0, none⟩ x).setCell ⟨g, 1, none⟩ y) base v n f := by
  rcases h with ⟨rfl, rfl⟩ | ⟨g', cap, rfl, h1, h2, h3⟩
  · exact .inl ⟨rfl, rfl⟩
  · exact .inr ⟨g', cap, rfl, h1, h2, h3.block ((heap_setCell_other _ _ _ _ (by show g' ≠ g; omega)).trans (heap_setCell_other _ _ _ _ (by show g' ≠ g; omega)))⟩
theorem up_drew (w : World) : Up w w.drew := (Below.refl w.heap.size w).drew
theorem two_blocks (w : World) (A B : Obj) : ((w.alloc A).alloc B).heap[w.heap.size]? = some A ∧ ((w.alloc A).alloc B).heap[w.heap.size + 1]? = some B := by
  refine ⟨(Below.heap_alloc _ _ _ (by simp)).trans (heap_alloc_new w A), ?_⟩
  have := heap_alloc_new (w.alloc A) B
  simpa using this

theorem num_pos {f : Nat → Nat} {n : Nat} (h : Can 4294967296 f n) (hn : n ≠ 0) : 0 < num 4294967296 f n := by
  have h1 := num_ge (B := 4294967296) (f := f) (n := n) (by omega) (by rcases h.2 with h | h; omega; exact h)
  have : 0 < 4294967296 ^ (n - 1) := Nat.pos_of_ne_zero (by simp)
  omega
theorem sgn_inj {b : Bool} {x y : Nat} (h : sgn b x = sgn b y) : x = y := by
  cases b <;> simp [sgn] at h <;> omega
theorem sgn_sign {b c : Bool} {f g : Nat → Nat} {n m : Nat} (ca : CanZ b f n) (cu : CanZ c g m) (h : sgn b (num 4294967296 f n) = sgn c (num 4294967296 g m)) : b = c := by
  cases b <;> cases c
  · rfl
  · have := num_pos cu.1 (cu.2 rfl)
    simp [sgn] at h
    omega
  · have := num_pos ca.1 (ca.2 rfl)
    simp [sgn] at h
    omega
  · rfl

set_option maxRecDepth 4000 in
set_option maxHeartbeats 1000000 in
theorem cnum_any (a : Value) (b : Bool) (n : Nat) (f : Nat → Nat) (w : World) (hv : Nm w a b n f) (hn : 4 * n ≤ 140737488355328) :
    Calls Tryd.prog 24 #[a] w fun e w' => ∃ a', e = .returned a' ∧ OwnN w' w.heap.size a' b n f ∧ Up w w' := by
  obtain ⟨v, rfl, hv⟩ := hv
  obtain ⟨ao, cap, rfl, h1, h2, h0, h3⟩ := hv
  have h3' : Rd .u32 ((w.alloc (.cells #[.bool b, .slice ao n cap] 26)).alloc (.cells #[.bool false, .slice none 0 0] 26)).drew ao n f := h3.below (((up_alloc w _).tr (up_alloc _ _)).tr (up_drew _)) (Nat.le_refl _)
  go_enter Tryd.func24, Tryd.ntmps24
  go_wp2_with fail
  go_region_with (go_at_call 58; refine (copy_any _ _ _ f _ h3' h0 hn).mono ?_; rintro e w1 ⟨v1, rfl, o1, u1⟩; obtain ⟨ao1, cap1, rfl, -⟩ := id o1.sl; obtain ⟨c0, c1, f0, f1, lt⟩ := cells2 (Up.blk u1 (two_blocks w _ _).1); obtain ⟨d0, d1, g0, g1, lt1⟩ := cells2 (Up.blk u1 (two_blocks w _ _).2); obtain ⟨e0, e1⟩ := back2 (Up.blk u1 (two_blocks w _ _).2))
  all_goals
    go_wp2_with fail
    refine bodyPost_ret (by simp [results, Tryd.results24, go_sem, e0, e1]; rfl) rfl ?_
    exact ⟨_, rfl, ⟨_, rfl, (o1.set2 (by simp)).mono (by simp; omega)⟩, Up.set2 ((((up_alloc w _).tr (up_alloc _ _)).tr (up_drew _)).tr u1) (by omega)⟩

set_option maxRecDepth 4000 in
set_option maxHeartbeats 1000000 in
theorem sameNum_any (a u : Value) (b c : Bool) (n m : Nat) (f g : Nat → Nat) (w : World) (ha : Nm w a b n f) (hu : Nm w u c m g) (hb : b = c) (hs : n = m ∧ ∀ i, i < n → f i = g i) :
    Calls Tryd.prog 47 #[a, u] w fun e w' => e = .returned (.bool true) ∧ Up w w' := by
  subst hb
  obtain ⟨v, rfl, hv⟩ := ha
  obtain ⟨v', rfl, hu⟩ := hu
  obtain ⟨ao, cap, rfl, -⟩ := id hv
  obtain ⟨ao', cap', rfl, -⟩ := id hu
  have HS := hide hs
  clear hs
  obtain ⟨h3, h1, h2⟩ := ((hv.up (below_alloc w (.cells #[.bool b, .slice ao n cap] 26))).up (below_alloc _ (.cells #[.bool b, .slice ao' m cap'] 26))).rd
  obtain ⟨g3, g1, g2⟩ := ((hu.up (below_alloc w (.cells #[.bool b, .slice ao n cap] 26))).up (below_alloc _ (.cells #[.bool b, .slice ao' m cap'] 26))).rd
  go_enter Tryd.func47, Tryd.ntmps47
  cases b <;>
  · go_wp2_with fail
    refine (same_any _ _ _ _ _ _ f g _ h3 g3 (by omega) (by omega) (unhide HS)).mono ?_
    rintro e w1 ⟨rfl, u1⟩
    go_wp2_with fail
    go_ret
    exact ⟨rfl, ((up_alloc w _).tr (up_alloc _ _)).tr u1⟩

set_option maxRecDepth 4000 in
set_option maxHeartbeats 1000000 in
theorem samez_any (a u : Value) (b c : Bool) (n m : Nat) (f g : Nat → Nat) (w : World) (ha : Nm w a b n f) (hu : Nm w u c m g) (ca : CanZ b f n) (cu : CanZ c g m) (hs : sgn b (num 4294967296 f n) = sgn c (num 4294967296 g m)) :
    Calls Tryd.prog 16 #[a, u] w fun e w' => e = .returned (.bool true) ∧ Up w w' := by
  have hb : b = c := sgn_sign ca cu hs
  have hs' : n = m ∧ ∀ i, i < n → f i = g i := can_uniq (B := 4294967296) (by omega) ca.1 cu.1 (sgn_inj (b := c) (by rw [← hs, hb]))
  have HS := hide hs'
  clear hs hs' ca cu
  subst hb
  obtain ⟨v, rfl, hv⟩ := ha
  obtain ⟨v', rfl, hu⟩ := hu
  have hv' := (hv.up (below_alloc w (.cells #[.bool b, v] 26))).up (below_alloc _ (.cells #[.bool b, v'] 26))
  have hu' := (hu.up (below_alloc w (.cells #[.bool b, v] 26))).up (below_alloc _ (.cells #[.bool b, v'] 26))
  obtain ⟨ao, cap, rfl, -⟩ := id hv
  obtain ⟨ao', cap', rfl, -⟩ := id hu
  go_enter Tryd.func16, Tryd.ntmps16
  go_wp2_with fail
  refine (sameNum_any _ _ b b n m f g _ ⟨_, rfl, hv'⟩ ⟨_, rfl, hu'⟩ rfl (unhide HS)).mono ?_
  rintro e w1 ⟨rfl, u1⟩
  go_wp2_with fail
  go_ret
  exact ⟨rfl, ((up_alloc w _).tr (up_alloc _ _)).tr u1⟩

end Go.Proofs.YtjbocfhmfidjjaaDoor
