/-
  What is proved here: num.numberOf cuts the noughts at the end off and keeps the sign of what is not 0; num.work and num.answer turn numbers into what is worked at and back. what the statements of num share: tandemlaw02.c copies a number, tandemlaw02.same tells that two numbers are the same. num.difference, num.total and num.sum: the sum of any numbers with their signs, canonical, in new memory. num.total and num.sum: the sum of any numbers with their signs, canonical, in new memory. num.workAll turns a row of numbers into what is worked at; num.Add answers the sum of all that it is handed. strconv.AppendUint appends the decimal digits of a number, where the library's table of powers of ten reads as it is laid. nat.Text answers the shortest decimal digits of a number, where the library's table of powers of ten reads as it is laid; digits behind noughts; tandemlaw00.Place; strings of digits. the row's condition on the tables gives what strconv.AppendUint asks; tandemlaw00.Place; a nought ahead of digits. num.Of answers the number that it is handed; num.Text says it with its sign. num.Text says a number with its sign. plain facts on long division digit by digit, and on shifts; no walk. nat.takeTimes takes a multiple of one row of limbs from another in place, and tells whether it had to borrow. nat.guessLimb answers the quotient of a part by the divisor, or 1 more. plain facts on shifting a number's limbs; no walk. nat.shiftLeft and nat.shiftRight shift a number's limbs into new memory. plain facts on long division, one quotient limb at a time; no walk. nat.divideLong answers quotient and rest of two numbers, the divisor of two limbs or more. nat.divideLong answers quotient and rest of two numbers, the divisor of two limbs or more. nat.Div answers the canonical limbs of quotient and rest and true; nothing, nothing and false, where the divisor is 0.
-/
import Derived.Test.YtfplplobhmacoaaGreatDoorQA
import Derived.Handy
import Derived.Deep.RegionWith
import Derived.Maps.AppendAt
import Derived.Shelf.Strconv.AppendInt10
import Derived.Ground.NamesProg
import Derived.Test.YtfplplobhmacoaaGreatDoorRows
import Derived.Laws.BitsAllLaws
import Derived.Laws.MathBits
import Derived.Test.YtfplplobhmacoaaGreatDoorProg
import Derived.Test.YtfplplobhmacoaaGreatDoorBase
import Derived.WalkLawsBesides
namespace Go.Proofs.YtfplplobhmacoaaGreatDoor
open Go Go.RowKit Go.Shelf

theorem cells2 {w : World} {g : Nat} {c0 c1 : Value} {E : TypeId} (h : w.heap[g]? = some (.cells #[c0, c1] E (0, 0))) :
    w.cell? ⟨g, 0, none⟩ = some c0 ∧ w.cell? ⟨g, 1, none⟩ = some c1 ∧ w.frozen? ⟨g, 0, none⟩ = false ∧ w.frozen? ⟨g, 1, none⟩ = false ∧ g < w.heap.size :=
  ⟨by rw [cell_of_row w g 0 _ E (0, 0) h]; rfl, by rw [cell_of_row w g 1 _ E (0, 0) h]; rfl, frozen_of_row w g 0 _ E h, frozen_of_row w g 1 _ E h, (Array.getElem?_eq_some_iff.1 h).1⟩

theorem up_alloc (w : World) (o : Obj) : Up w (w.alloc o) := below_alloc w o

theorem Up.blk {W w1 : World} {g : Nat} {o : Obj} (u : Up W w1) (h : W.heap[g]? = some o) : w1.heap[g]? = some o :=
  (Below.block u g (Array.getElem?_eq_some_iff.1 h).1).trans h

/-- What was just set is read. -/
theorem back2 {w1 : World} {g : Nat} {c0 c1 : Value} {E : TypeId} (h : w1.heap[g]? = some (.cells #[c0, c1] E (0, 0))) :
    (∀ x, (w1.setCell ⟨g, 0, none⟩ x).cell? ⟨g, 0, none⟩ = some x) ∧ ∀ x y, ((w1.setCell ⟨g, 0, none⟩ x).setCell ⟨g, 1, none⟩ y).cell? ⟨g, 1, none⟩ = some y := by
  have h1 := fun x => heap_setCell_same w1 g 0 _ E x h
  have h2 := fun x y => heap_setCell_same (w1.setCell ⟨g, 0, none⟩ x) g 1 _ E y (h1 x)
  exact ⟨fun x => by rw [cell_of_row _ g 0 _ E (0, 0) (h1 x)]; rfl, fun x y => by rw [cell_of_row _ g 1 _ E (0, 0) (h2 x y)]; rfl⟩

/-- The block that was laid last ahead of a call, behind it. -/
theorem res2 {V w1 : World} {c0 c1 : Value} {E : TypeId} (g : Nat) (hg : g = V.heap.size) (u : Up (V.alloc (.cells #[c0, c1] E)) w1) :
    w1.cell? ⟨g, 0, none⟩ = some c0 ∧ w1.cell? ⟨g, 1, none⟩ = some c1 ∧ w1.frozen? ⟨g, 0, none⟩ = false ∧ w1.frozen? ⟨g, 1, none⟩ = false ∧ g < w1.heap.size ∧
      (∀ x, (w1.setCell ⟨g, 0, none⟩ x).cell? ⟨g, 0, none⟩ = some x) ∧ ∀ x y, ((w1.setCell ⟨g, 0, none⟩ x).setCell ⟨g, 1, none⟩ y).cell? ⟨g, 1, none⟩ = some y := by
  subst hg
  obtain ⟨h1, h2, h3, h4, h5⟩ := cells2 (u.blk (heap_alloc_new V _))
  exact ⟨h1, h2, h3, h4, h5, back2 (u.blk (heap_alloc_new V _))⟩

set_option maxRecDepth 4000 in
set_option maxHeartbeats 1000000 in
theorem numberOf_any (ao : Option Addr) (n cap : Nat) (f : Nat → Nat) (b : Bool) (w : World) (h : Rd .u32 w ao n f) (hnc : n ≤ cap) (hm : cap ≤ 9223372036854775807) :
    Calls Tryz.prog 67 #[.slice ao n cap, .bool b] w fun e w' => ∃ m, m ≤ n ∧ e = .returned (.agg #[.slice ao m cap, .bool (b && !decide (m = 0))]) ∧ Up w w' ∧ (∀ i, m ≤ i → i < n → f i = 0) ∧ (m = 0 ∨ f (m - 1) ≠ 0) := by
  rcases h with rfl | ⟨bl, off, rfl, hc⟩
  · cases b <;>
    · go_enter Tryz.func67, Tryz.ntmps67
      go_wp2
      refine wp_loop_rounds 1 ?_
      rw [rounds_succ]
      go_wp2
      go_returns
      exact ⟨0, Nat.le_refl _, by simp, below_alloc w _, fun i h1 h2 => by omega, .inl rfl⟩
  · by_cases hn0 : n = 0
    · subst hn0
      cases b <;>
      · go_enter Tryz.func67, Tryz.ntmps67
        go_wp2
        refine wp_loop_rounds 1 ?_
        rw [rounds_succ]
        go_wp2
        go_returns
        exact ⟨0, Nat.le_refl _, by simp, below_alloc w _, fun i h1 h2 => by omega, .inl rfl⟩
    have hbl := Rd.lt hc (by omega)
    go_enter Tryz.func67, Tryz.ntmps67
    go_wp2
    go_loop [5] (fun t => ∃ k : Nat, k ≤ n ∧ t = .int .i64 k ∧ ∀ i, k ≤ i → i < n → f i = 0) (fun t => (intOf t).toNat)
    case atStart => exact ⟨n, Nat.le_refl _, rfl, fun i h1 h2 => by omega⟩
    case round =>
      obtain ⟨k, hk, rfl, hz⟩ := hrel
      by_cases hk0 : 0 < k
      · have hx := hc (k - 1) (by omega)
        clear hc
        by_cases he : f (k - 1) = 0
        · have HE : Hid (f (k - 1) = 0) := he
          rw [he] at hx
          clear he
          go_wp2
          go_round
          case rel => exact ⟨k - 1, by omega, by go_num, fun i h1 h2 => by
            by_cases e : i = k - 1
            · rw [e]; exact HE.out
            · exact hz i (by omega) h2⟩
          case measure => simp [intOf]; omega
        · have hb : ((f (k - 1) : Int) == 0) = false := by simp; omega
          generalize hy : f (k - 1) = y at *
          have HE := hide hy
          clear hy
          have hkz : ((k : Int) == 0) = false := by simp; omega
          cases b <;>
          · go_wp2
            go_returns
            exact ⟨k, hk, by first | (simp; done) | (simp; omega), below_alloc w _, hz, .inr (by rw [unhide HE]; exact he)⟩
      · have e0 : k = 0 := by omega
        subst e0
        cases b <;>
        · go_wp2
          go_returns
          exact ⟨0, by omega, by simp, below_alloc w _, hz, .inl rfl⟩

/-- A number (api.Num) that is handed about: its sign, and its limbs. -/
def Nm (w : World) (a : Value) (b : Bool) (n : Nat) (f : Nat → Nat) : Prop := ∃ v, a = .agg #[.bool b, v] ∧ Sl .u32 w v n f

/-- A number that is worked at. -/
def Wk (w : World) (a : Value) (b : Bool) (n : Nat) (f : Nat → Nat) : Prop := ∃ v, a = .agg #[v, .bool b] ∧ Sl .u32 w v n f

theorem Nm.up {w w' : World} {a : Value} {b : Bool} {n : Nat} {f : Nat → Nat} (h : Nm w a b n f) (u : Up w w') : Nm w' a b n f := by
  obtain ⟨v, e, s⟩ := h
  exact ⟨v, e, s.up u⟩

theorem Wk.up {w w' : World} {a : Value} {b : Bool} {n : Nat} {f : Nat → Nat} (h : Wk w a b n f) (u : Up w w') : Wk w' a b n f := by
  obtain ⟨v, e, s⟩ := h
  exact ⟨v, e, s.up u⟩

/-- What a number says. -/
def sgn (b : Bool) (x : Nat) : Int := if b then -(x : Int) else x

/-- Canonical: no limb 0 at the end, 0 without its sign. -/
def CanZ (b : Bool) (f : Nat → Nat) (n : Nat) : Prop := Can 4294967296 f n ∧ (b = true → n ≠ 0)

theorem CanZ.of {b : Bool} {f : Nat → Nat} {n : Nat} (h : Can 4294967296 f n) : CanZ (b && !decide (n = 0)) f n :=
  ⟨h, fun e => by simp at e; exact e.2⟩

theorem sgn_cut {b : Bool} {f : Nat → Nat} {n : Nat} : sgn (b && !decide (n = 0)) (num 4294967296 f n) = sgn b (num 4294967296 f n) := by
  by_cases h : n = 0
  · subst h
    simp [sgn, num]
  · simp [h]

theorem Sl.cutAt {k : IntKind} {w : World} {ao : Option Addr} {n cap m : Nat} {f : Nat → Nat} (h : Sl k w (.slice ao n cap) n f) (hm : m ≤ n) : Sl k w (.slice ao m cap) m f := by
  obtain ⟨ao', cap', e, h1, h2, h0, h3⟩ := h
  cases e
  exact ⟨ao, cap, rfl, by omega, h2, h0, h3.mono hm⟩

theorem Sl.rd {k : IntKind} {w : World} {ao : Option Addr} {n cap : Nat} {f : Nat → Nat} (h : Sl k w (.slice ao n cap) n f) : Rd k w ao n f ∧ n ≤ cap ∧ cap ≤ 9223372036854775807 := by
  obtain ⟨ao', cap', e, h1, h2, h0, h3⟩ := h
  cases e
  exact ⟨h3, h1, h2⟩

/-- Two cells of a block from 'base' on turned. -/
theorem Up.set2 {w w1 : World} {g : Nat} {x y : Value} (u : Up w w1) (hg : w.heap.size ≤ g) : Up w ((w1.setCell ⟨g, 0, none⟩ x).setCell ⟨g, 1, none⟩ y) :=
  Below.setCell (p := ⟨g, 1, none⟩) (Below.setCell (p := ⟨g, 0, none⟩) u hg x) hg y

set_option maxRecDepth 4000 in
set_option maxHeartbeats 1000000 in
theorem work_any (a : Value) (b : Bool) (n : Nat) (f : Nat → Nat) (w : World) (hv : Nm w a b n f) (hd : ∀ i, i < n → f i < 4294967296) :
    Calls Tryz.prog 58 #[a] w fun e w' => ∃ a' b' m, e = .returned a' ∧ (∀ w0, Nm w0 a b n f → Wk w0 a' b' m f) ∧ Up w w' ∧ CanZ b' f m ∧ m ≤ n ∧ sgn b' (num 4294967296 f m) = sgn b (num 4294967296 f n) := by
  obtain ⟨v, rfl, hv⟩ := hv
  obtain ⟨ao, cap, rfl, -⟩ := id hv
  obtain ⟨h3, h1, h2⟩ := ((hv.up (below_alloc w _)).up (below_alloc _ _)).rd
  go_enter Tryz.func58, Tryz.ntmps58
  go_wp2_with fail
  refine (numberOf_any ao n cap f b _ h3 h1 h2).mono ?_
  rintro e w1 ⟨m, hm, rfl, u1, hz, ht⟩
  obtain ⟨c0, c1, f0, f1, lt, e0, e1⟩ := res2 (w.heap.size + 1) (by simp) u1
  go_wp2_with fail
  refine bodyPost_ret (by simp [results, Tryz.results58, go_sem, e0, e1]; rfl) rfl ?_
  refine ⟨_, _, m, rfl, (fun w0 h => by obtain ⟨v, e, hv⟩ := h; cases e; exact ⟨_, rfl, hv.cutAt hm⟩), Up.set2 (((up_alloc w _).tr (up_alloc _ _)).tr u1) (by omega), CanZ.of ⟨fun i hi => hd i (by omega), ht⟩, hm, ?_⟩
  rw [sgn_cut, num_tail hm hz]

/-- A number in memory of the call's own. -/
def OwnN (w : World) (base : Nat) (a : Value) (b : Bool) (n : Nat) (f : Nat → Nat) : Prop := ∃ v, a = .agg #[.bool b, v] ∧ Own .u32 83 w base v n f

theorem OwnN.nm {w : World} {base : Nat} {a : Value} {b : Bool} {n : Nat} {f : Nat → Nat} (h : OwnN w base a b n f) : Nm w a b n f := by
  obtain ⟨v, e, o⟩ := h
  exact ⟨v, e, o.sl⟩

theorem Own.set2 {k : IntKind} {E : TypeId} {w : World} {base g : Nat} {v x y : Value} {n : Nat} {f : Nat → Nat} (h : Own k E w base v n f) (hg : g < base) : Own k E ((w.setCell ⟨g, 0, none⟩ x).setCell ⟨g, 1, none⟩ y) base v n f := by
  rcases h with ⟨rfl, rfl⟩ | ⟨g', cap, rfl, h1, h2, h3⟩
  · exact .inl ⟨rfl, rfl⟩
  · exact .inr ⟨g', cap, rfl, h1, h2, h3.block ((heap_setCell_other _ _ _ _ (by show g' ≠ g; omega)).trans (heap_setCell_other _ _ _ _ (by show g' ≠ g; omega)))⟩

theorem num_pos {f : Nat → Nat} {n : Nat} (h : Can 4294967296 f n) (hn : n ≠ 0) : 0 < num 4294967296 f n := by
  have h1 := num_ge (B := 4294967296) (f := f) (n := n) (by omega) (by rcases h.2 with h | h; omega; exact h)
  have : 0 < 4294967296 ^ (n - 1) := Nat.pos_of_ne_zero (by simp)
  omega

/-- k lists of at most M limbs. -/
def Lsts (w : World) (M k : Nat) (va : Nat → Value) (na : Nat → Nat) (fa : Nat → Nat → Nat) : Prop :=
  ∀ j, j < k → Sl .u32 w (va j) (na j) (fa j) ∧ (∀ i, i < na j → fa j i < 4294967296) ∧ na j ≤ M

theorem Lsts.up {w w' : World} {M k : Nat} {va : Nat → Value} {na : Nat → Nat} {fa : Nat → Nat → Nat} (h : Lsts w M k va na fa) (u : Up w w') : Lsts w' M k va na fa :=
  fun j hj => ⟨(h j hj).1.up u, (h j hj).2⟩

def updA {α : Type} (f : Nat → α) (i : Nat) (x : α) : Nat → α := fun j => if j = i then x else f j

theorem updA_same {α : Type} (f : Nat → α) (i : Nat) (x : α) : updA f i x i = x := by simp [updA]

theorem updA_other {α : Type} {f : Nat → α} {i j : Nat} {x : α} (h : j ≠ i) : updA f i x j = f j := by simp [updA, h]

theorem Rds.of_row {w : World} {base : Nat} {v : Value} {k : Nat} {va : Nat → Value} (h : w.ownsRow base 28 1 v k (valsOf va k)) : ∃ mo cap, v = .slice mo k cap ∧ (mo = none → cap = 0) ∧ Rds w mo k va := by
  rcases id h.2 with ⟨rfl, rfl⟩ | ⟨g, cap, cur, rfl, h1, h2, h3, h4, h5, h6⟩
  · exact ⟨none, 0, rfl, fun _ => rfl, .inl rfl⟩
  · exact ⟨some ⟨g, 0, none⟩, cap, rfl, (fun e => by cases e), .inr ⟨g, 0, rfl, fun i hi => by rw [Nat.zero_add, h.cellAt i (by omega), valsOf_get va k i hi]⟩⟩

/-- A block of N cells, not frozen. -/
def RowV (E : TypeId) (w : World) (g N : Nat) (c : Nat → Value) : Prop :=
  ∃ cur, w.heap[g]? = some (.cells cur E (0, 0)) ∧ cur.size = N ∧ ∀ i, i < N → cur[i]? = some (c i)

theorem RowV.cell {E : TypeId} {w : World} {g N i : Nat} {c : Nat → Value} (h : RowV E w g N c) (hi : i < N) : w.cell? ⟨g, i, none⟩ = some (c i) := by
  obtain ⟨cur, h1, h2, h3⟩ := h
  rw [cell_of_row w g i cur E (0, 0) h1]
  exact h3 i hi

theorem RowV.free {E : TypeId} {w : World} {g N : Nat} {c : Nat → Value} (h : RowV E w g N c) (i : Nat) : w.frozen? ⟨g, i, none⟩ = false := by
  obtain ⟨cur, h1, h2, h3⟩ := h
  exact frozen_of_row w g i cur E h1

theorem RowV.lt {E : TypeId} {w : World} {g N : Nat} {c : Nat → Value} (h : RowV E w g N c) : g < w.heap.size := by
  obtain ⟨cur, h1, h2, h3⟩ := h
  exact (Array.getElem?_eq_some_iff.1 h1).1

theorem RowV.set {E : TypeId} {w : World} {g N i : Nat} {c : Nat → Value} (h : RowV E w g N c) (hi : i < N) (x : Value) : RowV E (w.setCell ⟨g, i, none⟩ x) g N (updA c i x) := by
  obtain ⟨cur, h1, h2, h3⟩ := h
  refine ⟨cur.setIfInBounds i x, heap_setCell_same w g i cur E _ h1, by simpa using h2, fun j hj => ?_⟩
  by_cases e : j = i
  · subst e
    rw [updA_same, Array.getElem?_setIfInBounds_self_of_lt (by omega)]
  · rw [updA_other e, Array.getElem?_setIfInBounds_ne (by omega)]
    exact h3 j hj

theorem RowV.up {E : TypeId} {w w' : World} {g N : Nat} {c : Nat → Value} (h : RowV E w g N c) (u : Up w w') : RowV E w' g N c := by
  have hl := h.lt
  obtain ⟨cur, h1, h2, h3⟩ := h
  exact ⟨cur, (u.block g hl).trans h1, h2, h3⟩

def Tab (w : World) : Prop := Lib.TabIs Tryz.prog w "internal/strconv.uint64pow10" .u64 Lib.pow10Tab

theorem Tab.up {w w' : World} (h : Tab w) (u : Up w w') : Tab w' := Lib.tabBelow_of_tabIs h w' u

def laysAU_ren : Go.Shelf.Ren := ⟨fun | 288 => 90 | 283 => 92 | 284 => 93 | 285 => 94 | 286 => 95 | 129 => 97 | 317 => 96 | 318 => 98 | 319 => 99 | 320 => 100 | 337 => 101 | 338 => 102 | n => n, fun | 37 => 37 | 53 => 117 | 3 => 3 | 4 => 4 | 9 => 9 | 171 => 123 | 0 => 0 | 173 => 126 | 212 => 130 | 51 => 83 | 5 => 5 | 20 => 20 | 213 => 131 | 46 => 103 | 232 => 135 | 233 => 136 | n => n, fun | 17 => 2 | 18 => 3 | 19 => 4 | n => n⟩
theorem laysAU : Go.Proofs.LaysM.n288 Tryz.prog laysAU_ren := {
  mixed := by kernel_rfl
  f129 := Tryz.func97.trans (congrArg some (by kernel_rfl))
  f283 := Tryz.func92.trans (congrArg some (by kernel_rfl))
  f284 := Tryz.func93.trans (congrArg some (by kernel_rfl))
  f285 := Tryz.func94.trans (congrArg some (by kernel_rfl))
  f286 := Tryz.func95.trans (congrArg some (by kernel_rfl))
  f288 := Tryz.func90.trans (congrArg some (by kernel_rfl))
  f317 := Tryz.func96.trans (congrArg some (by kernel_rfl))
  f318 := Tryz.func98.trans (congrArg some (by kernel_rfl))
  f319 := Tryz.func99.trans (congrArg some (by kernel_rfl))
  f320 := Tryz.func100.trans (congrArg some (by kernel_rfl))
  f337 := Tryz.func101.trans (congrArg some (by kernel_rfl))
  f338 := Tryz.func102.trans (congrArg some (by kernel_rfl))
  t0 := Tryz.underlying0
  a0 := Tryz.isAgg0
  z0 := Tryz.sizeOf0
  v0 := Tryz.zeroValue0
  t3 := Tryz.underlying3
  a3 := Tryz.isAgg3
  z3 := Tryz.sizeOf3
  v3 := Tryz.zeroValue3
  t4 := Tryz.underlying4
  a4 := Tryz.isAgg4
  z4 := Tryz.sizeOf4
  v4 := Tryz.zeroValue4
  t5 := Tryz.underlying5
  a5 := Tryz.isAgg5
  z5 := Tryz.sizeOf5
  v5 := Tryz.zeroValue5
  t9 := Tryz.underlying9
  a9 := Tryz.isAgg9
  z9 := Tryz.sizeOf9
  v9 := Tryz.zeroValue9
  t20 := Tryz.underlying20
  a20 := Tryz.isAgg20
  z20 := Tryz.sizeOf20
  v20 := Tryz.zeroValue20
  t37 := Tryz.underlying37
  a37 := Tryz.isAgg37
  z37 := Tryz.sizeOf37
  v37 := Tryz.zeroValue37
  t46 := Tryz.underlying103
  a46 := Tryz.isAgg103
  z46 := Tryz.sizeOf103
  v46 := Tryz.zeroValue103
  t51 := Tryz.underlying83
  a51 := Tryz.isAgg83
  z51 := Tryz.sizeOf83
  v51 := Tryz.zeroValue83
  t53 := Tryz.underlying117
  a53 := Tryz.isAgg117
  z53 := Tryz.sizeOf117
  v53 := Tryz.zeroValue117
  t171 := Tryz.underlying123
  a171 := Tryz.isAgg123
  z171 := Tryz.sizeOf123
  v171 := Tryz.zeroValue123
  t173 := Tryz.underlying126
  a173 := Tryz.isAgg126
  z173 := Tryz.sizeOf126
  v173 := Tryz.zeroValue126
  t212 := Tryz.underlying130
  a212 := Tryz.isAgg130
  z212 := Tryz.sizeOf130
  v212 := Tryz.zeroValue130
  t213 := Tryz.underlying131
  a213 := Tryz.isAgg131
  z213 := Tryz.sizeOf131
  t232 := Tryz.underlying135
  a232 := Tryz.isAgg135
  z232 := Tryz.sizeOf135
  v232 := Tryz.zeroValue135
  t233 := Tryz.underlying136
  a233 := Tryz.isAgg136
  z233 := Tryz.sizeOf136
  v233 := Tryz.zeroValue136
  g17 := by kernel_rfl
  g18 := by kernel_rfl
  g19 := by kernel_rfl
  i0 := by kernel_rfl
  i3 := by kernel_rfl
  i4 := by kernel_rfl
  i5 := by kernel_rfl
  i9 := by kernel_rfl
  i20 := by kernel_rfl
  i37 := by kernel_rfl
  i46 := by kernel_rfl
  i51 := by kernel_rfl
  i53 := by kernel_rfl
  i171 := by kernel_rfl
  i173 := by kernel_rfl
  i212 := by kernel_rfl
  i232 := by kernel_rfl
  i233 := by kernel_rfl
  m17 := by kernel_rfl
  m18 := by kernel_rfl
  m19 := by kernel_rfl }

theorem appU (B n u : Nat) (hu64 : u < 18446744073709551616) (sv : Value) (xs : List Value) (w : World) (hown : w.ownsRow B 5 1 sv n xs) (hBw : B ≤ w.heap.size) (hlim : n + 20 ≤ 140737488355328) (htab : Tab w) :
    Calls Tryz.prog 90 #[sv, .int .u64 u, .int .i64 10] w fun e w' => ∃ v', e = .returned v' ∧ w'.ownsRow B 5 1 v' (n + (Lib.decDigits u).length) (xs ++ Lib.byteCells (Lib.decDigits u)) ∧ Below B w w' ∧ Lib.OthersKept 5 none w w' :=
  Any.internal_strconv_AppendUint_10 laysAU B n u hu64 sv xs w hown hBw hlim htab

/-- The digit of u at place i from the left. -/
def dd (u i : Nat) : Nat := u / 10 ^ (Lib.nDigits u - 1 - i) % 10

theorem dec_places (L : Nat) : ∀ u, dec (fun i => u / 10 ^ (L - 1 - i) % 10) L = u % 10 ^ L := by
  induction L with
  | zero => intro u; simp [dec, Nat.mod_one]
  | succ L ih =>
    intro u
    show dec (fun i => u / 10 ^ (L + 1 - 1 - i) % 10) L * 10 + u / 10 ^ (L + 1 - 1 - L) % 10 = _
    rw [dec_congr (e := fun i => u / 10 / 10 ^ (L - 1 - i) % 10) (fun i hi => by
      rw [Nat.div_div_eq_div_mul, Nat.mul_comm, ← Nat.pow_succ, show (L - 1 - i).succ = L + 1 - 1 - i from by omega])]
    rw [ih, show L + 1 - 1 - L = 0 from by omega, Nat.pow_zero, Nat.div_one, Nat.pow_succ]
    have := Nat.mod_mul (a := 10) (b := 10 ^ L) (x := u)
    rw [Nat.mul_comm (10 ^ L) 10]
    omega

theorem ge_nDigits (u : Nat) (hu : 0 < u) : 10 ^ (Lib.nDigits u - 1) ≤ u := by
  induction u using Nat.strongRecOn with
  | _ u ih =>
    by_cases h : u < 10
    · rw [Lib.nDigits_small h]; exact hu
    · rw [Lib.nDigits_big h]
      have h1 := ih (u / 10) (by omega) (by omega)
      have h2 := Lib.nDigits_pos (u / 10)
      obtain ⟨k, hk⟩ : ∃ k, Lib.nDigits (u / 10) = k + 1 := ⟨_, (Nat.sub_add_cancel h2).symm⟩
      rw [hk] at h1 ⊢
      rw [show k + 1 + 1 - 1 = k + 1 from by omega, Nat.pow_succ]
      rw [show k + 1 - 1 = k from by omega] at h1
      omega

theorem nDigits_le (u : Nat) (hu : 0 < u) (h : u < 18446744073709551616) : Lib.nDigits u ≤ 20 := by
  apply Nat.le_of_not_lt
  intro h2
  have h3 := ge_nDigits u hu
  have h4 : 10 ^ 20 ≤ 10 ^ (Lib.nDigits u - 1) := Nat.pow_le_pow_right (by decide) (by omega)
  have h5 : 18446744073709551616 ≤ 10 ^ 20 := by decide
  omega

theorem dd_le (u i : Nat) : dd u i ≤ 9 := by
  unfold dd
  omega

theorem dd_dec (u : Nat) : dec (dd u) (Lib.nDigits u) = u := by
  show dec (fun i => u / 10 ^ (Lib.nDigits u - 1 - i) % 10) (Lib.nDigits u) = u
  rw [dec_places, Nat.mod_eq_of_lt (Lib.lt_pow_nDigits u)]

theorem dd_first (u : Nat) (hu : 0 < u) : dd u 0 ≠ 0 := by
  unfold dd
  rw [Nat.sub_zero]
  have h1 := ge_nDigits u hu
  have h2 := Lib.lt_pow_nDigits u
  have h3 := Lib.nDigits_pos u
  generalize Lib.nDigits u = k at *
  obtain ⟨j, rfl⟩ : ∃ j, k = j + 1 := ⟨k - 1, by omega⟩
  rw [show j + 1 - 1 = j from by omega] at *
  rw [Nat.pow_succ] at h2
  have h4 : 0 < 10 ^ j := Nat.pow_pos (by decide)
  have h5 : u / 10 ^ j < 10 := (Nat.div_lt_iff_lt_mul h4).2 (by rw [Nat.mul_comm]; exact h2)
  have h6 : 1 ≤ u / 10 ^ j := (Nat.le_div_iff_mul_le h4).2 (by omega)
  omega

theorem dd_cells (u j : Nat) (hj : j < Lib.nDigits u) : (Lib.byteCells (Lib.decDigits u))[j]? = some (.int .u8 ((48 + dd u j : Nat) : Int)) := by
  rw [Lib.decDigits_eq]
  unfold Lib.byteCells
  rw [List.getElem?_map, List.getElem?_map, List.getElem?_range hj]
  simp only [Option.map_some, Lib.dg, dd]
  rw [UInt8.toNat_ofNat']
  congr 2
  omega

/-- strconv.AppendUint, on a row of bytes of one's own. -/
def AppTab (u : Nat) : Prop := ∀ (base : Nat) (v : Value) (n : Nat) (t : Nat → Nat) (w : World), Own .u8 5 w base v n t → n + 20 ≤ 140737488355328 → base ≤ w.heap.size → Tab w →
    Calls Tryz.prog 83 #[v, .int .u64 u, .int .i64 10] w fun e w' => ∃ v' L d, e = .returned v' ∧ Own .u8 5 w' base v' (n + L) (glue t (fun i => 48 + d i) n) ∧ Below base w w' ∧ (∀ i, i < L → d i ≤ 9) ∧ 1 ≤ L ∧ L ≤ 20 ∧ d 0 ≠ 0 ∧ dec d L = u

theorem app_tab (u : Nat) (hu : 0 < u) (hu64 : u < 18446744073709551616) : AppTab u := by
  intro base v n t w hv hn hbase htab
  go_enter Tryz.func83, Tryz.ntmps83
  go_wp2_with fail
  refine (appU base n u hu64 v _ _ hv.row hbase hn htab).mono ?_
  rintro e w' ⟨v', rfl, ho, hb, -⟩
  have hl20 := nDigits_le u hu hu64
  go_wp2_with fail
  go_ret
  rw [Lib.decDigits_length] at ho
  refine ⟨v', Lib.nDigits u, dd u, rfl, Own.of_row ho (fun j hj => ?_), hb, fun i _ => dd_le u i, Lib.nDigits_pos u, hl20, dd_first u hu, dd_dec u⟩
  by_cases e : j < n
  · rw [List.getElem?_append_left (by rw [cellsOf_length]; exact e), cellsOf_get _ _ _ _ e, glue_lo e]
  · obtain ⟨k, rfl⟩ : ∃ k, j = n + k := ⟨j - n, by omega⟩
    rw [List.getElem?_append_right (by rw [cellsOf_length]; omega), cellsOf_length, show n + k - n = k from by omega, dd_cells u k (by omega), glue_hi]

set_option maxRecDepth 4000 in
set_option maxHeartbeats 2000000 in
theorem text_tab (v : Value) (n : Nat) (f : Nat → Nat) (w : World) (hv : Sl .u32 w v n f) (hf : ∀ i, i < n → f i < 4294967296) (hn : 100 * (n + 1) ≤ 140737488355328)
    (htab : Tab w) :
    Calls Tryz.prog 73 #[v] w fun e w' => ∃ s, e = .returned (.string s) ∧ Below w.heap.size w w' ∧ s.size ≤ 18 * n + 20 ∧ Says s (num 4294967296 f n) := by
  obtain ⟨i, hi, hz0, hz1, hz2⟩ := info_parts infoB
  go_enter Tryz.func73, Tryz.ntmps73
  go_wp2_with fail
  refine (groupsOf_any _ n f _ hv hf (by omega)).mono ?_
  rintro e w1 ⟨v1, k, G, rfl, ho1, hb1, hc1, hk1, hs1⟩
  have HS1 := hide hs1
  clear hs1
  rcases ho1 with ⟨rfl, rfl⟩ | ⟨g, cap, rfl, hg, hcap, hr1⟩
  · go_wp2_with fail
    go_ret
    refine ⟨⟨#[48]⟩, rfl, hb1, by show 1 ≤ _; omega, ?_⟩
    rw [← unhide HS1]
    refine ⟨fun _ => 0, Nat.le_refl _, fun i h => ?_, rfl, .inl rfl⟩
    have e : i = 0 := by have : i < 1 := h; omega
    subst e
    exact ⟨rfl, Nat.zero_le _⟩
  by_cases hk0 : k = 0
  · subst hk0
    go_wp2_with fail
    go_ret
    refine ⟨⟨#[48]⟩, rfl, hb1, by show 1 ≤ _; omega, ?_⟩
    rw [← unhide HS1]
    refine ⟨fun _ => 0, Nat.le_refl _, fun i h => ?_, rfl, .inl rfl⟩
    have e : i = 0 := by have : i < 1 := h; omega
    subst e
    exact ⟨rfl, Nat.zero_le _⟩
  obtain ⟨m, rfl⟩ : ∃ m, k = m + 1 := ⟨k - 1, by omega⟩
  have hkb : (((m + 1 : Nat) : Int) == 0) = false := beq_eq_false_iff_ne.2 (by omega)
  have hkb2 : ((m : Int) + 1 == 0) = false := beq_eq_false_iff_ne.2 (by omega)
  have hxm := hr1.cell (i := m) (by omega)
  have hGm : G m < 1000000000 := hc1.1 m (by omega)
  have hGm0 : 0 < G m := Nat.pos_of_ne_zero (by rcases hc1.2 with h | h; omega; rwa [Nat.add_sub_cancel] at h)
  have HAPP2 : Hid (AppTab (G m)) := hide (app_tab (G m) hGm0 (by omega))
  have hlt1 := hr1.lt
  go_wp2_with (at_make; refine wpList_make_own _ rfl _ _ 37 rfl w1.heap.size 5 i (.int .u8 0) 1 Tryz.underlying37 hi hz0 hz1 _ _ _ ((m + 1) * 9) rfl rfl (by omega) (by rw [hz2]; omega) (by unfold maxLen; omega) (Nat.le_refl _) ?_; intro w2 hown2 hgr2; have hb2 := Below.of_grown hgr2; have hx2 := (hb2.cell (p := ⟨g, m, none⟩) hlt1).trans hxm)
  have hown0 : Own .u8 5 w2 w1.heap.size (.slice (some ⟨w1.heap.size, 0, none⟩) 0 ((m + 1) * 9)) 0 (fun _ => 0) := Own.of_row hown2 (fun j hj => by omega)
  have hz2' := hb2.size
  refine (unhide HAPP2 w1.heap.size _ 0 (fun _ => 0) _ hown0 (by omega) (by omega) (htab.up (Up.tr hb1 hb2))).mono ?_
  rintro e w3 ⟨v3, L, d, rfl, ho3, hb3, hd3, hL1, hL2, hd0, hdec⟩
  have ho3' : Own .u8 5 w3 w1.heap.size v3 L (fun i => 48 + d i) := by
    rw [Nat.zero_add] at ho3
    exact ho3.congr (fun i hi => by simp [glue])
  have hb3' := hb2.trans hb3
  have HDEC := hide hdec
  have HD0 := hide hd0
  clear hown0 hown2 hgr2 hb2 hx2 hb3 ho3 HAPP2 hdec hd0
  go_wp2_with fail
  go_loopw [5, 6] (fun u5 t6 wr => ∃ (j L : Nat) (d : Nat → Nat), j ≤ m ∧ t6 = .int .i64 ((j : Int) - 1) ∧ Own .u8 5 wr w1.heap.size u5 L (fun i => 48 + d i) ∧ Below w1.heap.size w1 wr ∧ w1.heap.size ≤ wr.heap.size ∧ (∀ i, i < L → d i ≤ 9) ∧ 1 ≤ L ∧ L + 9 * j ≤ 20 + 9 * m ∧ d 0 ≠ 0 ∧ dec d L = num 1000000000 (fun i => G (j + i)) (m + 1 - j)) (fun _ t6 _ => (intOf t6 + 1).toNat)
  case atStart => exact ⟨m, L, d, Nat.le_refl _, rfl, ho3', hb3', by have := hb3'.size; omega, hd3, hL1, by omega, unhide HD0, by rw [unhide HDEC, show m + 1 - m = 1 from by omega]; simp [num]⟩
  case round =>
    clear ho3' hb3' HDEC HD0 hd3 hL1 hL2
    obtain ⟨j, L', d', hj, rfl, ho, hb, hsz, hd, hL1, hL2, hd0, hdec⟩ := hrel
    have HDEC := hide hdec
    have HD0 := hide hd0
    clear hdec hd0
    by_cases hj0 : j = 0
    · subst hj0
      rcases ho with ⟨h, h'⟩ | ⟨g5, cap5, h5, hb5, hc5, hr5⟩
      · omega
      subst h5
      have hconv := conv_digits _ g5 cap5 L' _ d' hd hr5
      go_wp2_with fail
      go_ret
      have hsz5 : (⟨(digText d' L').toArray⟩ : ByteArray).size = L' := by simp [ByteArray.size, digText_length]
      refine ⟨_, rfl, hb1.trans (hb.mono hb1.size), by rw [hsz5]; omega, says_mk d' L' _ hd hL1 ?_ (.inr (unhide HD0))⟩
      rw [unhide HDEC, ← unhide HS1, Nat.sub_zero]
      exact num_congr (fun i _ => by rw [Nat.zero_add])
    · obtain ⟨q, rfl⟩ : ∃ q, j = q + 1 := ⟨j - 1, by omega⟩
      have hGq : G q < 1000000000 := hc1.1 q (by omega)
      have hx := (hb.cell (p := ⟨g, q, none⟩) hlt1).trans (hr1.cell (i := q) (by omega))
      have HT := hide (num_top 1000000000 G q (m + 1) (by omega))
      have HG := hide (dec_glue d' (G q) L' hGq)
      have HGL := hide (glue_le (gr := G q) hd)
      have HG0 := hide (show glue d' (dig9 (G q)) L' 0 ≠ 0 by rw [glue_lo (by omega)]; exact unhide HD0)
      rw [show (((q + 1 : Nat) : Int) - 1) = (q : Int) from by omega]
      generalize G q = gq at *
      go_wp2_with fail
      refine (appendGroup_any w1.heap.size _ L' gq _ _ ho (by omega) (by omega) hsz).mono ?_
      rintro e w4 ⟨v4, rfl, ho4, hb4⟩
      have ho4' := ho4.congr (fun i _ => glue_digits d' (dig9 gq) L' i)
      have hb4' := hb.trans hb4
      clear ho ho4 hb hb4 hd
      go_wp2_with fail
      go_roundw
      case rel => exact ⟨q, L' + 9, glue d' (dig9 gq) L', by omega, rfl, ho4', hb4', by have := hb4'.size; omega, unhide HGL, by omega, by omega, unhide HG0, by rw [unhide HG, unhide HDEC, unhide HT]; omega⟩
      case measure => simp [intOf]

theorem pow10_data : (Rows.laid_internal_strconv_uint64pow10 : DataW Unit) = Lib.tabData .u64 Lib.pow10Tab := by rfl

set_option maxRecDepth 100000 in
theorem tab_of_laid {w : World} (h : laidMetH Tryz.prog Rows.showTextsRow.laid w) : Tab w := by
  have h2 : laidMet Tryz.prog Rows.showTextsRow.laid w := h
  obtain ⟨ps, ⟨_, _, _, _, _, q1, _, _, _, _, ⟨_, _, _, _, _, q2, _, _, _, _, ⟨g, t, cs, fuel, p, q, hg, ht, hvar, hd, _, _⟩, _⟩, _⟩, _⟩ := h2
  have hg' : Tryz.prog.globalNamed "internal/strconv.uint64pow10" = some 2 := by kernel_rfl
  have ht' : (Tryz.prog.globals[2]?).map (·.type) = some 130 := by kernel_rfl
  obtain rfl := Option.some.inj (hg'.symm.trans hg)
  obtain rfl := Option.some.inj (ht'.symm.trans ht)
  rw [pow10_data] at hd
  unfold Tab Lib.TabIs
  rw [hvar, ← Lib.cells_of_tab (n := 20) (e := 117) (by kernel_rfl) (by kernel_rfl) (by kernel_rfl) (by kernel_rfl) hd]

/-- s is a text of digits that say x. -/
def Digs (s : ByteArray) (x : Nat) : Prop := ∃ d : Nat → Nat, 1 ≤ s.size ∧ (∀ i (h : i < s.size), s[i].toNat = 48 + d i ∧ d i ≤ 9) ∧ dec d s.size = x

theorem Digs.zero {s : ByteArray} {x : Nat} (h : Digs s x) : Digs (⟨#[48]⟩ ++ s) x ∧ (⟨#[48]⟩ ++ s : ByteArray).size = s.size + 1 := by
  obtain ⟨d, h1, h2, h3⟩ := h
  have hs : (⟨#[48]⟩ ++ s : ByteArray).size = s.size + 1 := by
    rw [ByteArray.size_append]
    show 1 + s.size = _
    omega
  refine ⟨⟨fun i => if i = 0 then 0 else d (i - 1), by omega, fun i hi => ?_, ?_⟩, hs⟩
  · by_cases e : i = 0
    · subst e
      rw [ByteArray.getElem_append_left (by decide)]
      exact ⟨rfl, by simp⟩
    · obtain ⟨j, rfl⟩ : ∃ j, i = j + 1 := ⟨i - 1, by omega⟩
      rw [ByteArray.getElem_append_right (show (⟨#[48]⟩ : ByteArray).size ≤ j + 1 from by show 1 ≤ j + 1; omega)]
      have e1 : j + 1 - (⟨#[48]⟩ : ByteArray).size = j := by show j + 1 - 1 = j; omega
      have e2 : (if j + 1 = 0 then 0 else d (j + 1 - 1)) = d j := by rw [if_neg (by omega), Nat.add_sub_cancel]
      have h3 := h2 j (by omega)
      simp only [e1, e2]
      exact h3
  · rw [hs, Nat.add_comm, dec_split]
    rw [dec_congr (d := fun i => if 1 + i = 0 then 0 else d (1 + i - 1)) (e := d) (fun i _ => by rw [if_neg (by omega), show 1 + i - 1 = i from by omega])]
    simp [dec, h3]

theorem Own.cutAt {k : IntKind} {E : TypeId} {w : World} {base : Nat} {ao : Option Addr} {n cap m : Nat} {f : Nat → Nat} (h : Own k E w base (.slice ao n cap) n f) (hm : m ≤ n) : Own k E w base (.slice ao m cap) m f := by
  rcases h with ⟨e, rfl⟩ | ⟨g, cap', e, h1, h2, h3⟩
  · cases e
    obtain rfl : m = 0 := by omega
    exact .inl ⟨rfl, rfl⟩
  · cases e
    exact .inr ⟨g, cap, rfl, h1, h2, h3.mono hm⟩

/-- s is the decimal text of z. -/
def SaysZ (s : ByteArray) (z : Int) : Prop := (0 ≤ z ∧ Says s z.natAbs) ∨ (z < 0 ∧ ∃ t, s = ⟨#[45]⟩ ++ t ∧ Says t z.natAbs)

set_option maxRecDepth 4000 in
set_option maxHeartbeats 1000000 in
theorem sizeText_any (v : Value) (n : Nat) (f : Nat → Nat) (w : World) (hv : Sl .u32 w v n f) (hf : ∀ i, i < n → f i < 4294967296) (hn : 100 * (n + 1) ≤ 140737488355328) (htab : Tab w) :
    Calls Tryz.prog 59 #[v] w fun e w' => ∃ s, e = .returned (.string s) ∧ Up w w' ∧ s.size ≤ 18 * n + 20 ∧ Says s (num 4294967296 f n) := by
  go_enter Tryz.func59, Tryz.ntmps59
  go_wp2_with fail
  refine (text_tab v n f w hv hf hn htab).mono ?_
  rintro e w1 ⟨s, rfl, u1, l1, s1⟩
  have HS := hide s1
  clear s1
  go_wp2_with fail
  go_ret
  exact ⟨s, rfl, u1, l1, unhide HS⟩

set_option maxRecDepth 4000 in
set_option maxHeartbeats 1000000 in
theorem textz_any (a : Value) (b : Bool) (n : Nat) (f : Nat → Nat) (w : World) (ha : Nm w a b n f) (hd : ∀ i, i < n → f i < 4294967296) (hn : 100 * (n + 1) ≤ 140737488355328) (htab : Tab w) :
    Calls Tryz.prog 39 #[a] w fun e w' => ∃ s, e = .returned (.string s) ∧ Up w w' ∧ s.size ≤ 18 * n + 21 ∧ SaysZ s (sgn b (num 4294967296 f n)) := by
  obtain ⟨v, rfl, hv⟩ := ha
  obtain ⟨ao, cap, rfl, -⟩ := id hv
  go_enter Tryz.func39, Tryz.ntmps39
  go_wp2_with fail
  refine (work_any _ b n f _ ⟨_, rfl, hv.up (up_alloc _ _)⟩ hd).mono ?_
  rintro e w1 ⟨a1, b1, m1, rfl, hw1, u1, c1, l1, s1⟩
  obtain ⟨v1, rfl, sv1⟩ := hw1 w ⟨_, rfl, hv⟩
  obtain ⟨ao1, cap1, rfl, -⟩ := id sv1
  have HS1 := hide s1
  clear s1 hw1
  have U1 : Up w w1 := (up_alloc w _).tr u1
  cases b1
  · go_wp2_with fail
    refine (sizeText_any _ m1 f _ (sv1.up (U1.tr (up_alloc _ _))) c1.1.1 (by omega) (htab.up (U1.tr (up_alloc _ _)))).mono ?_
    rintro e w2 ⟨s, rfl, u2, l2, s2⟩
    have HS2 := hide s2
    clear s2
    go_wp2_with fail
    go_ret
    refine ⟨s, rfl, (U1.tr (up_alloc _ _)).tr u2, by omega, .inl ?_⟩
    rw [← unhide HS1]
    have := unhide HS2
    simp only [sgn]
    simpa using this
  · go_wp2_with fail
    refine (sizeText_any _ m1 f _ (sv1.up (U1.tr (up_alloc _ _))) c1.1.1 (by omega) (htab.up (U1.tr (up_alloc _ _)))).mono ?_
    rintro e w2 ⟨s, rfl, u2, l2, s2⟩
    have HS2 := hide s2
    clear s2
    go_wp2_with fail
    go_ret
    refine ⟨_, rfl, (U1.tr (up_alloc _ _)).tr u2, by rw [ByteArray.size_append]; show 1 + s.size ≤ _; omega, .inr ?_⟩
    rw [← unhide HS1]
    have h1 := unhide HS2
    have h2 := num_pos c1.1 (c1.2 rfl)
    simp only [sgn]
    refine ⟨by simp; omega, s, rfl, by simpa using h1⟩

/-- Behind k digits: x times h's digits are taken from the row, but for what was borrowed (b) and carried (c). -/
def TakeRel (f h : Nat → Nat) (x off n k : Nat) (f' : Nat → Nat) (b c : Nat) : Prop :=
  b ≤ 1 ∧ c < 4294967296 ∧ (∀ i, ¬ (off ≤ i ∧ i < off + k) → f' i = f i) ∧ (∀ i, i < n → f' (off + i) < 4294967296) ∧
  num 4294967296 (fun i => f' (off + i)) k + x * num 4294967296 h k = num 4294967296 (fun i => f (off + i)) k + (b + c) * 4294967296 ^ k

theorem TakeRel.start {f h : Nat → Nat} {x off n : Nat} (hf : ∀ i, i < n → f (off + i) < 4294967296) : TakeRel f h x off n 0 f 0 0 :=
  ⟨by omega, by omega, fun _ _ => rfl, hf, by simp [num]⟩

theorem take_small {x y c : Nat} (hx : x < 4294967296) (hy : y < 4294967296) (hc : c < 4294967296) : c + y * x < 18446744073709551616 := by
  have : y * x ≤ 4294967295 * 4294967295 := Nat.mul_le_mul (by omega) (by omega)
  omega

theorem TakeRel.step {f h f' : Nat → Nat} {x off n k b c y z d b' : Nat} (r : TakeRel f h x off n k f' b c) (hx : x < 4294967296) (hz : f' (off + k) = z) (hy : h k = y) (hyl : y < 4294967296)
    (hd : d < 4294967296) (hb' : b' ≤ 1) (hs : d + (c + y * x) % 4294967296 + b = z + 4294967296 * b') :
    TakeRel f h x off n (k + 1) (upd f' (off + k) d) b' ((c + y * x) / 4294967296) := by
  obtain ⟨h1, h2, h3, h4, h5⟩ := r
  have hsm := take_small hx hyl h2
  refine ⟨hb', by omega, fun i hi => ?_, fun i hi => ?_, ?_⟩
  · rw [upd_other (by omega)]
    exact h3 i (by omega)
  · by_cases e : i = k
    · rw [e, upd_same]; exact hd
    · rw [upd_other (by omega)]; exact h4 i hi
  · rw [num_succ, num_succ, num_succ, upd_same]
    rw [num_congr (g := fun i => f' (off + i)) (fun i hi => upd_other (by omega))]
    have e1 : f (off + k) = z := by rw [← hz]; exact (h3 _ (by omega)).symm
    rw [e1, hy, Nat.pow_succ]
    generalize 4294967296 ^ k = P at *
    generalize hS : c + y * x = S at *
    have e2 : (d + S % 4294967296 + b) * P = (z + 4294967296 * b') * P := by rw [hs]
    rw [Nat.add_mul, Nat.add_mul, Nat.add_mul] at e2
    have e3 : S % 4294967296 * P + S / 4294967296 * (P * 4294967296) = S * P := by
      rw [Nat.mul_comm P, ← Nat.mul_assoc, ← Nat.add_mul, Nat.mul_comm _ 4294967296, Nat.mod_add_div]
    have e4 : S * P = c * P + y * x * P := by rw [← hS, Nat.add_mul]
    have e5 : x * (num 4294967296 h k + y * P) = x * num 4294967296 h k + y * x * P := by rw [Nat.mul_add, ← Nat.mul_assoc, Nat.mul_comm x y]
    have e6 : (b' + S / 4294967296) * (P * 4294967296) = 4294967296 * b' * P + S / 4294967296 * (P * 4294967296) := by
      rw [Nat.add_mul, Nat.mul_comm 4294967296 b', Nat.mul_assoc, Nat.mul_comm 4294967296 P]
    rw [Nat.add_mul] at h5
    rw [e5, e6]
    omega

/-- The last place takes what was carried. -/
theorem TakeRel.last {f h f' : Nat → Nat} {x off n b c z d b' : Nat} (r : TakeRel f h x off (n + 1) n f' b c) (hz : f' (off + n) = z)
    (hd : d < 4294967296) (hs : d + c + b = z + 4294967296 * b') :
    (∀ i, ¬ (off ≤ i ∧ i < off + (n + 1)) → upd f' (off + n) d i = f i) ∧ (∀ i, i < n + 1 → upd f' (off + n) d (off + i) < 4294967296) ∧
    num 4294967296 (fun i => upd f' (off + n) d (off + i)) (n + 1) + x * num 4294967296 h n = num 4294967296 (fun i => f (off + i)) (n + 1) + b' * 4294967296 ^ (n + 1) := by
  obtain ⟨h1, h2, h3, h4, h5⟩ := r
  refine ⟨fun i hi => ?_, fun i hi => ?_, ?_⟩
  · rw [upd_other (by omega)]
    exact h3 i (by omega)
  · by_cases e : i = n
    · rw [e, upd_same]; exact hd
    · rw [upd_other (by omega)]; exact h4 i hi
  · rw [num_succ, num_succ, upd_same]
    rw [num_congr (g := fun i => f' (off + i)) (fun i hi => upd_other (by omega))]
    have e1 : f (off + n) = z := by rw [← hz]; exact (h3 _ (by omega)).symm
    rw [e1, Nat.pow_succ]
    generalize 4294967296 ^ n = P at *
    have e2 : (d + c + b) * P = (z + 4294967296 * b') * P := by rw [hs]
    rw [Nat.add_mul, Nat.add_mul, Nat.add_mul] at e2
    have e3 : 4294967296 * b' * P = b' * (P * 4294967296) := by rw [Nat.mul_comm 4294967296 b', Nat.mul_assoc, Nat.mul_comm 4294967296 P]
    rw [Nat.add_mul] at h5
    omega

/-- The memory is the same; at the most something was drawn. -/
structure Still (w w' : World) : Prop where
  os : w'.os = w.os
  tape : w'.tape = w.tape
  output : w'.output = w.output
  heap : w'.heap = w.heap

theorem Still.refl (w : World) : Still w w := ⟨rfl, rfl, rfl, rfl⟩

theorem Still.drew {w w' : World} (h : Still w w') : Still w w'.drew := ⟨h.os, h.tape, h.output, h.heap⟩

/-- q is the quotient; where the loop stands: first times the guess, and what is left, make the head; the guess is not below q. -/
def GuessRel (first head q g l : Nat) : Prop := g * first + l = head ∧ q ≤ g ∧ l < 4294967296

theorem GuessRel.ok {first second head next g l : Nat} (h1 : g * first + l = head) (hc : g * second ≤ l * 4294967296 + next) : g * (first * 4294967296 + second) ≤ head * 4294967296 + next := by
  rw [Nat.mul_add, ← Nat.mul_assoc, ← h1, Nat.add_mul]
  omega

theorem GuessRel.out {first second head next g l : Nat} (h1 : g * first + l = head) (hl : 4294967296 ≤ l) (hs : second < 4294967296) (hh : head < first * 4294967296 + 4294967296) :
    g < 4294967296 ∧ g * second ≤ l * 4294967296 + next := by
  have hg : g < 4294967296 := by
    apply Nat.lt_of_not_le
    intro hle
    have : 4294967296 * first ≤ g * first := Nat.mul_le_mul_right _ hle
    omega
  refine ⟨hg, ?_⟩
  have h2 : g * second ≤ 4294967296 * 4294967296 := Nat.mul_le_mul (by omega) (by omega)
  have h3 : 4294967296 * 4294967296 ≤ l * 4294967296 := Nat.mul_le_mul_right _ hl
  omega

theorem pow_split (s : Nat) (h : s < 32) : 2 ^ s * 2 ^ (32 - s) = 4294967296 := by
  rw [← Nat.pow_add, show s + (32 - s) = 32 from by omega]

/-- Behind k limbs: f's first k limbs times t, the carry in place k. -/
def ShlRel (f : Nat → Nat) (t k : Nat) (f' : Nat → Nat) : Prop :=
  num 4294967296 f' (k + 1) = num 4294967296 f k * t ∧ f' k < t ∧ (∀ i, i ≤ k → f' i < 4294967296) ∧ (∀ i, k < i → f' i = 0)

theorem lo_join (s x c : Nat) (hs : s < 32) (hc : c < 2 ^ s) : c ||| (x * 2 ^ s % 4294967296) = c + x * 2 ^ s % 4294967296 ∧ c + x * 2 ^ s % 4294967296 < 4294967296 := by
  have hd : 2 ^ s ∣ 4294967296 := ⟨2 ^ (32 - s), (pow_split s hs).symm⟩
  have hm : x * 2 ^ s % 4294967296 % 2 ^ s = 0 := by
    rw [Nat.mod_mod_of_dvd _ hd, Nat.mul_mod_left]
  refine ⟨?_, ?_⟩
  · rw [Nat.or_comm, nat_join s _ _ hm hc, Nat.add_comm]
  · have hl : x * 2 ^ s % 4294967296 < 4294967296 := Nat.mod_lt _ (by decide)
    obtain ⟨a, ha⟩ := Nat.dvd_of_mod_eq_zero hm
    have hp := pow_split s hs
    rw [ha] at hl ⊢
    rw [← hp] at hl ⊢
    have h1 : a < 2 ^ (32 - s) := Nat.lt_of_mul_lt_mul_left hl
    have h2 : 2 ^ s * (a + 1) ≤ 2 ^ s * 2 ^ (32 - s) := Nat.mul_le_mul_left _ h1
    rw [Nat.mul_add, Nat.mul_one] at h2
    omega

theorem ShlRel.step {f f' : Nat → Nat} {s k x c : Nat} (hs : s < 32) (r : ShlRel f (2 ^ s) k f') (hx : f k = x) (hxl : x < 4294967296) (hc : f' k = c) :
    ShlRel f (2 ^ s) (k + 1) (upd (upd f' k (c + x * 2 ^ s % 4294967296)) (k + 1) (x * 2 ^ s / 4294967296)) := by
  obtain ⟨h1, h2, h3, h4⟩ := r
  have hj := lo_join s x c hs (by rw [← hc]; exact h2)
  have hhi : x * 2 ^ s / 4294967296 < 2 ^ s := by
    rw [Nat.div_lt_iff_lt_mul (by decide), Nat.mul_comm]
    exact Nat.mul_lt_mul_of_pos_left hxl (Nat.two_pow_pos s)
  have hsp : 2 ^ s ≤ 4294967296 := by
    have := Nat.pow_le_pow_right (n := 2) (by decide) (show s ≤ 32 by omega)
    exact this
  refine ⟨?_, ?_, fun i hi => ?_, fun i hi => ?_⟩
  · rw [num_succ, num_succ, upd_same, upd_other (by omega), upd_same]
    rw [num_congr (g := f') (fun i hi => by rw [upd_other (by omega), upd_other (by omega)])]
    rw [num_succ, hc] at h1
    have g : (num 4294967296 f k + x * 4294967296 ^ k) * 2 ^ s = num 4294967296 f k * 2 ^ s + x * 2 ^ s * 4294967296 ^ k := by
      rw [Nat.add_mul, Nat.mul_assoc x, Nat.mul_comm (4294967296 ^ k), ← Nat.mul_assoc]
    rw [num_succ, hx, g, ← h1, Nat.pow_succ]
    clear g
    generalize 4294967296 ^ k = P
    generalize x * 2 ^ s = Y at *
    have e : Y % 4294967296 * P + Y / 4294967296 * (P * 4294967296) = Y * P := by
      rw [Nat.mul_comm P, ← Nat.mul_assoc, ← Nat.add_mul, Nat.mul_comm _ 4294967296, Nat.mod_add_div]
    rw [Nat.add_mul c]
    omega
  · rw [upd_same]; exact hhi
  · by_cases e : i = k + 1
    · rw [e, upd_same]; omega
    · rw [upd_other e]
      by_cases e2 : i = k
      · rw [e2, upd_same]; exact hj.2
      · rw [upd_other e2]; exact h3 i (by omega)
  · rw [upd_other (by omega), upd_other (by omega)]
    exact h4 i (by omega)

/-- Behind k limbs of a right shift. -/
def ShrRel (a : Nat → Nat) (t k : Nat) (f' : Nat → Nat) : Prop :=
  t * num 4294967296 f' k + a 0 % t = num 4294967296 a k + a k % t * 4294967296 ^ k ∧ (∀ i, i < k → f' i < 4294967296)

theorem shr_word (s x y : Nat) (hs : s < 32) : (x + y * 4294967296) / 2 ^ s % 4294967296 = (x / 2 ^ s + y % 2 ^ s * 2 ^ (32 - s)) % 4294967296 := by
  have hp := pow_split s hs
  have e1 : (x + y * 4294967296) / 2 ^ s = x / 2 ^ s + y * 2 ^ (32 - s) := by
    rw [← hp, show x + y * (2 ^ s * 2 ^ (32 - s)) = x + 2 ^ s * (y * 2 ^ (32 - s)) from by rw [← Nat.mul_assoc, Nat.mul_comm y, Nat.mul_assoc], Nat.add_mul_div_left _ _ (Nat.two_pow_pos s)]
  rw [e1]
  have e2 : y * 2 ^ (32 - s) = y / 2 ^ s * 4294967296 + y % 2 ^ s * 2 ^ (32 - s) := by
    rw [← hp, ← Nat.mul_assoc, ← Nat.add_mul, Nat.mul_comm _ (2 ^ s), Nat.div_add_mod]
  rw [e2]
  omega

theorem ShrRel.step {a f' : Nat → Nat} {s k x y : Nat} (hs : s < 32) (r : ShrRel a (2 ^ s) k f') (hx : a k = x) (hy : a (k + 1) = y) (hxl : x < 4294967296) :
    ShrRel a (2 ^ s) (k + 1) (upd f' k ((x + y * 4294967296) / 2 ^ s % 4294967296)) := by
  obtain ⟨h1, h2⟩ := r
  have hp := pow_split s hs
  have hpos := Nat.two_pow_pos s
  have hlt : x / 2 ^ s + y % 2 ^ s * 2 ^ (32 - s) < 4294967296 := by
    have h3 : x / 2 ^ s < 2 ^ (32 - s) := by
      rw [Nat.div_lt_iff_lt_mul hpos, Nat.mul_comm, hp]
      exact hxl
    have h4 : (y % 2 ^ s + 1) * 2 ^ (32 - s) ≤ 2 ^ s * 2 ^ (32 - s) := Nat.mul_le_mul_right _ (Nat.mod_lt _ hpos)
    rw [Nat.add_mul, Nat.one_mul, hp] at h4
    omega
  rw [shr_word s x y hs, Nat.mod_eq_of_lt hlt]
  refine ⟨?_, fun i hi => ?_⟩
  · rw [num_succ, num_succ, upd_same, num_congr (g := f') (fun i hi => upd_other (by omega)), hx, hy, Nat.mul_add]
    rw [hx] at h1
    have e1 := Nat.div_add_mod x (2 ^ s)
    have e2 : 2 ^ s * ((x / 2 ^ s + y % 2 ^ s * 2 ^ (32 - s)) * 4294967296 ^ k) = (2 ^ s * (x / 2 ^ s)) * 4294967296 ^ k + y % 2 ^ s * 4294967296 ^ (k + 1) := by
      have ea : ∀ T C P u v : Nat, T * ((u + v * C) * P) = T * u * P + v * (P * (T * C)) := by
        intro T C P u v
        rw [Nat.add_mul, Nat.mul_add, Nat.mul_assoc T u P]
        congr 1
        ac_rfl
      rw [ea, hp, Nat.pow_succ]
    rw [e2]
    have e3 : x * 4294967296 ^ k = (2 ^ s * (x / 2 ^ s)) * 4294967296 ^ k + x % 2 ^ s * 4294967296 ^ k := by rw [← Nat.add_mul, e1]
    omega
  · by_cases e : i = k
    · rw [e, upd_same]; exact hlt
    · rw [upd_other e]; exact h2 i (by omega)

theorem num_top2 (B : Nat) (G : Nat → Nat) (j m : Nat) (h : j < m) : num B (fun i => G (j + i)) (m - j) = G j + B * num B (fun i => G (j + 1 + i)) (m - (j + 1)) := by
  rw [show m - j = m - (j + 1) + 1 from by omega, num_head, Nat.add_zero]
  rw [num_congr (f := fun i => G (j + (1 + i))) (g := fun i => G (j + 1 + i)) (fun i _ => by rw [← Nat.add_assoc])]

/-- Where the quotient's limbs from j on are found: A is those times D, and what the rest holds. -/
def LongRel (A D n m j : Nat) (qf rf : Nat → Nat) : Prop :=
  num 4294967296 rf (n + m) < D * 4294967296 ^ j ∧ A = num 4294967296 (fun i => qf (j + i)) (m - j) * D * 4294967296 ^ j + num 4294967296 rf (n + m) ∧
  (∀ i, i < n + m → rf i < 4294967296) ∧ (∀ i, j ≤ i → i < m → qf i < 4294967296)

theorem LongRel.parts {A D n m j : Nat} {qf rf : Nat → Nat} (r : LongRel A D n m (j + 1) qf rf) (hj : j < m) (hD : D < 4294967296 ^ n) :
    num 4294967296 (fun i => rf (j + i)) (n + 1) < D * 4294967296 ∧ (∀ i, j + (n + 1) ≤ i → i < n + m → rf i = 0) ∧
    num 4294967296 rf (n + m) = num 4294967296 rf j + 4294967296 ^ j * num 4294967296 (fun i => rf (j + i)) (n + 1) := by
  obtain ⟨h1, h2, h3, h4⟩ := r
  have e1 : n + m = (j + (n + 1)) + (m - (j + 1)) := by omega
  have hsp : num 4294967296 rf (n + m) = num 4294967296 rf (j + (n + 1)) + 4294967296 ^ (j + (n + 1)) * num 4294967296 (fun i => rf (j + (n + 1) + i)) (m - (j + 1)) := by
    rw [show num 4294967296 rf (n + m) = num 4294967296 rf ((j + (n + 1)) + (m - (j + 1))) from by rw [← e1], num_split]
  have hz : num 4294967296 (fun i => rf (j + (n + 1) + i)) (m - (j + 1)) = 0 := by
    apply Nat.eq_zero_of_not_pos
    intro hpos
    have h5 : 4294967296 ^ (j + (n + 1)) * 1 ≤ 4294967296 ^ (j + (n + 1)) * num 4294967296 (fun i => rf (j + (n + 1) + i)) (m - (j + 1)) := Nat.mul_le_mul_left _ hpos
    have h6 : D * 4294967296 ^ (j + 1) ≤ 4294967296 ^ n * 4294967296 ^ (j + 1) := Nat.mul_le_mul_right _ (Nat.le_of_lt hD)
    rw [← Nat.pow_add, show n + (j + 1) = j + (n + 1) from by omega] at h6
    omega
  have hzz : ∀ i, i < m - (j + 1) → rf (j + (n + 1) + i) = 0 := by
    have := num_inj (B := 4294967296) (f := fun i => rf (j + (n + 1) + i)) (g := fun _ => 0) (n := m - (j + 1)) (fun i hi => h3 _ (by omega)) (fun _ _ => by decide)
      (by rw [hz, num_tail (n := 0) (by omega) (fun _ _ _ => rfl)]; rfl)
    exact this
  have hval : num 4294967296 rf (n + m) = num 4294967296 rf j + 4294967296 ^ j * num 4294967296 (fun i => rf (j + i)) (n + 1) := by
    rw [hsp, hz, Nat.mul_zero, Nat.add_zero, num_split]
  refine ⟨?_, fun i h5 h6 => ?_, hval⟩
  · have h5 : 4294967296 ^ j * num 4294967296 (fun i => rf (j + i)) (n + 1) < 4294967296 ^ j * (D * 4294967296) := by
      rw [Nat.pow_succ] at h1
      have : D * (4294967296 ^ j * 4294967296) = 4294967296 ^ j * (D * 4294967296) := by ac_rfl
      omega
    exact Nat.lt_of_mul_lt_mul_left h5
  · have := hzz (i - (j + (n + 1))) (by omega)
    rwa [show j + (n + 1) + (i - (j + (n + 1))) = i from by omega] at this

theorem LongRel.step {A D n m j q U' : Nat} {qf rf f' : Nat → Nat} (r : LongRel A D n m (j + 1) qf rf) (hj : j < m) (hD : D < 4294967296 ^ n) (hq : q < 4294967296)
    (ho : ∀ i, ¬ (j ≤ i ∧ i < j + (n + 1)) → f' i = rf i) (hd : ∀ i, i < n + 1 → f' (j + i) < 4294967296)
    (hU : num 4294967296 (fun i => f' (j + i)) (n + 1) = U') (hUq : U' + q * D = num 4294967296 (fun i => rf (j + i)) (n + 1)) (hUD : U' < D) :
    LongRel A D n m j (upd qf j q) f' := by
  obtain ⟨p1, p2, p3⟩ := r.parts hj hD
  obtain ⟨h1, h2, h3, h4⟩ := r
  have hv : num 4294967296 f' (n + m) = num 4294967296 rf j + 4294967296 ^ j * U' := by
    rw [num_tail (n := j + (n + 1)) (by omega) (fun i h5 h6 => by rw [ho i (by omega)]; exact p2 i h5 h6), num_split, hU]
    rw [num_congr (f := f') (g := rf) (n := j) (fun i hi => ho i (by omega))]
  have hlo : num 4294967296 rf j < 4294967296 ^ j := num_lt (fun i hi => h3 i (by omega))
  refine ⟨?_, ?_, fun i hi => ?_, fun i h5 h6 => ?_⟩
  · rw [hv]
    have : 4294967296 ^ j * (U' + 1) ≤ 4294967296 ^ j * D := Nat.mul_le_mul_left _ hUD
    rw [Nat.mul_add, Nat.mul_one] at this
    rw [Nat.mul_comm D]
    omega
  · rw [hv, num_top2 4294967296 (upd qf j q) j m hj, upd_same]
    rw [num_congr (f := fun i => upd qf j q (j + 1 + i)) (g := fun i => qf (j + 1 + i)) (fun i _ => upd_other (by omega))]
    rw [h2, p3, ← hUq, Nat.pow_succ]
    generalize num 4294967296 (fun i => qf (j + 1 + i)) (m - (j + 1)) = Q
    generalize 4294967296 ^ j = P
    generalize num 4294967296 rf j = lo
    have e1 : (q + 4294967296 * Q) * D * P = q * D * P + Q * D * (P * 4294967296) := by
      rw [Nat.add_mul, Nat.add_mul]
      congr 1
      ac_rfl
    have e2 : P * (U' + q * D) = P * U' + q * D * P := by rw [Nat.mul_add, Nat.mul_comm P (q * D)]
    rw [e1, e2]
    omega
  · by_cases e : j ≤ i ∧ i < j + (n + 1)
    · have := hd (i - j) (by omega)
      rwa [show j + (i - j) = i from by omega] at this
    · rw [ho i e]; exact h3 i hi
  · by_cases e : i = j
    · rw [e, upd_same]; exact hq
    · rw [upd_other e]; exact h4 i (by omega) h6

theorem LongRel.done {A D n m : Nat} {qf rf : Nat → Nat} (r : LongRel A D n m 0 qf rf) (hD : D < 4294967296 ^ n) :
    num 4294967296 rf n < D ∧ A = num 4294967296 qf m * D + num 4294967296 rf n := by
  obtain ⟨h1, h2, h3, h4⟩ := r
  have e0 : ∀ q : Nat → Nat, (fun i => q (0 + i)) = q := fun q => by funext i; rw [Nat.zero_add]
  rw [e0, Nat.sub_zero, Nat.pow_zero, Nat.mul_one] at h2
  rw [Nat.pow_zero, Nat.mul_one] at h1
  have hn : num 4294967296 rf (n + m) = num 4294967296 rf n := by
    rw [num_split]
    have : num 4294967296 (fun i => rf (n + i)) m = 0 := by
      apply Nat.eq_zero_of_not_pos
      intro hpos
      have h5 : 4294967296 ^ n * 1 ≤ 4294967296 ^ n * num 4294967296 (fun i => rf (n + i)) m := Nat.mul_le_mul_left _ hpos
      rw [num_split] at h1
      omega
    rw [this, Nat.mul_zero, Nat.add_zero]
  rw [hn] at h1 h2
  exact ⟨h1, h2⟩

theorem Still.below {B : Nat} {a w w' : World} (hb : Below B a w) (s : Still w w') : Below B a w' := hb.trans ⟨s.os, s.tape, s.output, by rw [s.heap]; exact Nat.le_refl _, fun k _ => by rw [s.heap]⟩

theorem Only.row {k : IntKind} {E : TypeId} {w w' : World} {g g2 N n : Nat} {f : Nat → Nat} (h : RowAt k E w g2 N n f) (o : Only g w w') (hne : g2 ≠ g) : RowAt k E w' g2 N n f := h.block (o.block g2 hne)

theorem div_one {A Bv : Nat} (h : A < Bv) : A / Bv = 0 ∧ A % Bv = A := ⟨Nat.div_eq_of_lt h, Nat.mod_eq_of_lt h⟩

end Go.Proofs.YtfplplobhmacoaaGreatDoor
