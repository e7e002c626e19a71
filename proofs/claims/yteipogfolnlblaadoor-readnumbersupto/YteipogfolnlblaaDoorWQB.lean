/-
  What is proved here: num.numberOf cuts the noughts at the end off and keeps the sign of what is not 0; num.work and num.answer turn numbers into what is worked at and back. what the statements of num share: tandemlaw02.c copies a number, tandemlaw02.same tells that two numbers are the same. num.difference, num.total and num.sum: the sum of any numbers with their signs, canonical, in new memory. num.total and num.sum: the sum of any numbers with their signs, canonical, in new memory. num.workAll turns a row of numbers into what is worked at; num.Add answers the sum of all that it is handed. strconv.AppendUint appends the decimal digits of a number, where the library's table of powers of ten reads as it is laid. nat.Text answers the shortest decimal digits of a number, where the library's table of powers of ten reads as it is laid; digits behind noughts; tandemlaw00.Place; strings of digits. the row's condition on the tables gives what strconv.AppendUint asks; tandemlaw00.Place; a nought ahead of digits. num.Of answers the number that it is handed; num.Text says it with its sign. num.Text says a number with its sign. plain facts on long division digit by digit, and on shifts; no walk. nat.takeTimes takes a multiple of one row of limbs from another in place, and tells whether it had to borrow. nat.guessLimb answers the quotient of a part by the divisor, or 1 more. plain facts on shifting a number's limbs; no walk. nat.shiftLeft and nat.shiftRight shift a number's limbs into new memory. plain facts on long division, one quotient limb at a time; no walk. nat.divideLong answers quotient and rest of two numbers, the divisor of two limbs or more. nat.divideLong answers quotient and rest of two numbers, the divisor of two limbs or more. nat.Div answers the canonical limbs of quotient and rest and true; nothing, nothing and false, where the divisor is 0.
-/
import Derived.Test.YteipogfolnlblaaDoorWQA
import Derived.Handy
import Derived.Deep.RegionWith
import Derived.Maps.AppendAt
import Derived.Shelf.Strconv.AppendInt10
import Derived.Ground.NamesProg
import Derived.Test.YteipogfolnlblaaDoorRows
import Derived.Laws.BitsAllLaws
import Derived.Laws.MathBits
import Derived.Test.YteipogfolnlblaaDoorProg
import Derived.Test.YteipogfolnlblaaDoorBase
import Derived.WalkLawsBesides
namespace Go.Proofs.YteipogfolnlblaaDoor
open Go Go.RowKit Go.Shelf
theorem cells2 {w : World} {g : Nat} {c0 c1 : Value} {E : TypeId} (h : w.heap[g]? = some (.cells #[c0, c1] E (0, 0))) :
    w.cell? ⟨g, 0, none⟩ = some c0 ∧ w.cell? ⟨g, 1, none⟩ = some c1 ∧ w.frozen? ⟨g, 0, none⟩ = false ∧ w.frozen? ⟨g, 1, none⟩ = false ∧ g < w.heap.size :=
  ⟨by rw [cell_of_row w g 0 _ E (0, 0) h]; rfl, by rw [cell_of_row w g 1 _ E (0, 0) h]; rfl, frozen_of_row w g 0 _ E h, frozen_of_row w g 1 _ E h, (Array.getElem?_eq_some_iff.1 h).1⟩

theorem up_alloc (w : World) (o : Obj) : Up w (w.alloc o) := below_alloc w o

theorem Up.blk {W w1 : World} {g : Nat} {o : Obj} (u : Up W w1) (h : W.heap[g]? = some o) : w1.heap[g]? = some o :=
  (Below.block u g (Array.getElem?_eq_some_iff.1 h).1).trans h

/-- What was just set is read. -/
theorem back2 {w1 : World} {g : Nat} {c0 c1 : Value} {E : TypeId} (h : w1.heap[g]? = some (.cells #[c0, c1] E (0, 0))) :
    (∀ x, (w1.setCell ⟨g, 0, none⟩ x).cell? ⟨g, 0, none⟩ = some x) ∧ ∀ x y, ((w1.setCell ⟨g, 0, none⟩ x).setCell ⟨g, 1, none⟩ y).cell? ⟨g, 1, none⟩ = some y := by
  have h1 := fun x => heap_setCell_same w1 g 0 _ E x h
  have h2 := fun x y => heap_setCell_same (w1.setCell ⟨g, 0, none⟩ x) g 1 _ E y (h1 x)
  exact ⟨fun x => by rw [cell_of_row _ g 0 _ E (0, 0) (h1 x)]; rfl, fun x y => by rw [cell_of_row _ g 1 _ E (0, 0) (h2 x y)]; rfl⟩

/-- The block that was laid last ahead of a call, behind it. -/
theorem res2 {V w1 : World} {c0 c1 : Value} {E : TypeId} (g : Nat) (hg : g = V.heap.size) (u : Up (V.alloc (.cells #[c0, c1] E)) w1) :
    w1.cell? ⟨g, 0, none⟩ = some c0 ∧ w1.cell? ⟨g, 1, none⟩ = some c1 ∧ w1.frozen? ⟨g, 0, none⟩ = false ∧ w1.frozen? ⟨g, 1, none⟩ = false ∧ g < w1.heap.size ∧
      (∀ x, (w1.setCell ⟨g, 0, none⟩ x).cell? ⟨g, 0, none⟩ = some x) ∧ ∀ x y, ((w1.setCell ⟨g, 0, none⟩ x).setCell ⟨g, 1, none⟩ y).cell? ⟨g, 1, none⟩ = some y := by
  subst hg
  obtain ⟨h1, h2, h3, h4, h5⟩ := cells2 (u.blk (heap_alloc_new V _))
  exact ⟨h1, h2, h3, h4, h5, back2 (u.blk (heap_alloc_new V _))⟩

set_option maxRecDepth 4000 in
set_option maxHeartbeats 1000000 in
theorem numberOf_any (ao : Option Addr) (n cap : Nat) (f : Nat → Nat) (b : Bool) (w : World) (h : Rd .u32 w ao n f) (hnc : n ≤ cap) (hm : cap ≤ 9223372036854775807) :
    Calls Tryd.prog 19 #[.slice ao n cap, .bool b] w fun e w' => ∃ m, m ≤ n ∧ e = .returned (.agg #[.slice ao m cap, .bool (b && !decide (m = 0))]) ∧ Up w w' ∧ (∀ i, m ≤ i → i < n → f i = 0) ∧ (m = 0 ∨ f (m - 1) ≠ 0) := by
  rcases h with rfl | ⟨bl, off, rfl, hc⟩
  · cases b <;>
    · go_enter Tryd.func19, Tryd.ntmps19
      go_wp2
      refine wp_loop_rounds 1 ?_
      rw [rounds_succ]
      go_wp2
      go_returns
      exact ⟨0, Nat.le_refl _, by simp, below_alloc w _, fun i h1 h2 => by omega, .inl rfl⟩
  · by_cases hn0 : n = 0
    · subst hn0
      cases b <;>
      · go_enter Tryd.func19, Tryd.ntmps19
        go_wp2
        refine wp_loop_rounds 1 ?_
        rw [rounds_succ]
        go_wp2
        go_returns
        exact ⟨0, Nat.le_refl _, by simp, below_alloc w _, fun i h1 h2 => by omega, .inl rfl⟩
    have hbl := Rd.lt hc (by omega)
    go_enter Tryd.func19, Tryd.ntmps19
    go_wp2
    go_loop [5] (fun t => ∃ k : Nat, k ≤ n ∧ t = .int .i64 k ∧ ∀ i, k ≤ i → i < n → f i = 0) (fun t => (intOf t).toNat)
    case atStart => exact ⟨n, Nat.le_refl _, rfl, fun i h1 h2 => by omega⟩
    case round =>
      obtain ⟨k, hk, rfl, hz⟩ := hrel
      by_cases hk0 : 0 < k
      · have hx := hc (k - 1) (by omega)
        clear hc
        by_cases he : f (k - 1) = 0
        · have HE : Hid (f (k - 1) = 0) := he
          rw [he] at hx
          clear he
          go_wp2
          go_round
          case rel => exact ⟨k - 1, by omega, by go_num, fun i h1 h2 => by
            by_cases e : i = k - 1
            · rw [e]; exact HE.out
            · exact hz i (by omega) h2⟩
          case measure => simp [intOf]; omega
        · have hb : ((f (k - 1) : Int) == 0) = false := by simp; omega
          generalize hy : f (k - 1) = y at *
          have HE := hide hy
          clear hy
          have hkz : ((k : Int) == 0) = false := by simp; omega
          cases b <;>
          · go_wp2
            go_returns
            exact ⟨k, hk, by first | (simp; done) | (simp; omega), below_alloc w _, hz, .inr (by rw [unhide HE]; exact he)⟩
      · have e0 : k = 0 := by omega
        subst e0
        cases b <;>
        · go_wp2
          go_returns
          exact ⟨0, by omega, by simp, below_alloc w _, hz, .inl rfl⟩

/-- A number (api.Num) that is handed about: its sign, and its limbs. -/
def Nm (w : World) (a : Value) (b : Bool) (n : Nat) (f : Nat → Nat) : Prop := ∃ v, a = .agg #[.bool b, v] ∧ Sl .u32 w v n f

/-- A number that is worked at. -/
def Wk (w : World) (a : Value) (b : Bool) (n : Nat) (f : Nat → Nat) : Prop := ∃ v, a = .agg #[v, .bool b] ∧ Sl .u32 w v n f

theorem Nm.up {w w' : World} {a : Value} {b : Bool} {n : Nat} {f : Nat → Nat} (h : Nm w a b n f) (u : Up w w') : Nm w' a b n f := by
  obtain ⟨v, e, s⟩ := h
  exact ⟨v, e, s.up u⟩

theorem Wk.up {w w' : World} {a : Value} {b : Bool} {n : Nat} {f : Nat → Nat} (h : Wk w a b n f) (u : Up w w') : Wk w' a b n f := by
  obtain ⟨v, e, s⟩ := h
  exact ⟨v, e, s.up u⟩

/-- What a number says. -/
def sgn (b : Bool) (x : Nat) : Int := if b then -(x : Int) else x

/-- Canonical: no limb 0 at the end, 0 without its sign. -/
def CanZ (b : Bool) (f : Nat → Nat) (n : Nat) : Prop := Can 4294967296 f n ∧ (b = true → n ≠ 0)

theorem CanZ.of {b : Bool} {f : Nat → Nat} {n : Nat} (h : Can 4294967296 f n) : CanZ (b && !decide (n = 0)) f n :=
  ⟨h, fun e => by simp at e; exact e.2⟩

theorem sgn_cut {b : Bool} {f : Nat → Nat} {n : Nat} : sgn (b && !decide (n = 0)) (num 4294967296 f n) = sgn b (num 4294967296 f n) := by
  by_cases h : n = 0
  · subst h
    simp [sgn, num]
  · simp [h]

theorem Sl.rd {k : IntKind} {w : World} {ao : Option Addr} {n cap : Nat} {f : Nat → Nat} (h : Sl k w (.slice ao n cap) n f) : Rd k w ao n f ∧ n ≤ cap ∧ cap ≤ 9223372036854775807 := by
  obtain ⟨ao', cap', e, h1, h2, h0, h3⟩ := h
  cases e
  exact ⟨h3, h1, h2⟩

/-- Two cells of a block from 'base' on turned. -/
theorem Up.set2 {w w1 : World} {g : Nat} {x y : Value} (u : Up w w1) (hg : w.heap.size ≤ g) : Up w ((w1.setCell ⟨g, 0, none⟩ x).setCell ⟨g, 1, none⟩ y) :=
  Below.setCell (p := ⟨g, 1, none⟩) (Below.setCell (p := ⟨g, 0, none⟩) u hg x) hg y

/-- A number in memory of the call's own. -/
def OwnN (w : World) (base : Nat) (a : Value) (b : Bool) (n : Nat) (f : Nat → Nat) : Prop := ∃ v, a = .agg #[.bool b, v] ∧ Own .u32 63 w base v n f

theorem OwnN.nm {w : World} {base : Nat} {a : Value} {b : Bool} {n : Nat} {f : Nat → Nat} (h : OwnN w base a b n f) : Nm w a b n f := by
  obtain ⟨v, e, o⟩ := h
  exact ⟨v, e, o.sl⟩

theorem Own.set2 {k : IntKind} {E : TypeId} {w : World} {base g : Nat} {v x y : Value} {n : Nat} {f : Nat → Nat} (h : Own k E w base v n f) (hg : g < base) : Own k E ((w.setCell ⟨g, 0, none⟩ x).setCell ⟨g, 1, none⟩ y) base v n f := by
  rcases h with ⟨rfl, rfl⟩ | ⟨g', cap, rfl, h1, h2, h3⟩
  · exact .inl ⟨rfl, rfl⟩
  · exact .inr ⟨g', cap, rfl, h1, h2, h3.block ((heap_setCell_other _ _ _ _ (by show g' ≠ g; omega)).trans (heap_setCell_other _ _ _ _ (by show g' ≠ g; omega)))⟩

/-- k lists of at most M limbs. -/
def Lsts (w : World) (M k : Nat) (va : Nat → Value) (na : Nat → Nat) (fa : Nat → Nat → Nat) : Prop :=
  ∀ j, j < k → Sl .u32 w (va j) (na j) (fa j) ∧ (∀ i, i < na j → fa j i < 4294967296) ∧ na j ≤ M

theorem Lsts.up {w w' : World} {M k : Nat} {va : Nat → Value} {na : Nat → Nat} {fa : Nat → Nat → Nat} (h : Lsts w M k va na fa) (u : Up w w') : Lsts w' M k va na fa :=
  fun j hj => ⟨(h j hj).1.up u, (h j hj).2⟩

def updA {α : Type} (f : Nat → α) (i : Nat) (x : α) : Nat → α := fun j => if j = i then x else f j

theorem updA_same {α : Type} (f : Nat → α) (i : Nat) (x : α) : updA f i x i = x := by simp [updA]

theorem updA_other {α : Type} {f : Nat → α} {i j : Nat} {x : α} (h : j ≠ i) : updA f i x j = f j := by simp [updA, h]

theorem Rds.of_row {w : World} {base : Nat} {v : Value} {k : Nat} {va : Nat → Value} (h : w.ownsRow base 22 1 v k (valsOf va k)) : ∃ mo cap, v = .slice mo k cap ∧ (mo = none → cap = 0) ∧ Rds w mo k va := by
  rcases id h.2 with ⟨rfl, rfl⟩ | ⟨g, cap, cur, rfl, h1, h2, h3, h4, h5, h6⟩
  · exact ⟨none, 0, rfl, fun _ => rfl, .inl rfl⟩
  · exact ⟨some ⟨g, 0, none⟩, cap, rfl, (fun e => by cases e), .inr ⟨g, 0, rfl, fun i hi => by rw [Nat.zero_add, h.cellAt i (by omega), valsOf_get va k i hi]⟩⟩

/-- A block of N cells, not frozen. -/
def RowV (E : TypeId) (w : World) (g N : Nat) (c : Nat → Value) : Prop :=
  ∃ cur, w.heap[g]? = some (.cells cur E (0, 0)) ∧ cur.size = N ∧ ∀ i, i < N → cur[i]? = some (c i)

theorem RowV.cell {E : TypeId} {w : World} {g N i : Nat} {c : Nat → Value} (h : RowV E w g N c) (hi : i < N) : w.cell? ⟨g, i, none⟩ = some (c i) := by
  obtain ⟨cur, h1, h2, h3⟩ := h
  rw [cell_of_row w g i cur E (0, 0) h1]
  exact h3 i hi

theorem RowV.free {E : TypeId} {w : World} {g N : Nat} {c : Nat → Value} (h : RowV E w g N c) (i : Nat) : w.frozen? ⟨g, i, none⟩ = false := by
  obtain ⟨cur, h1, h2, h3⟩ := h
  exact frozen_of_row w g i cur E h1

theorem RowV.lt {E : TypeId} {w : World} {g N : Nat} {c : Nat → Value} (h : RowV E w g N c) : g < w.heap.size := by
  obtain ⟨cur, h1, h2, h3⟩ := h
  exact (Array.getElem?_eq_some_iff.1 h1).1

theorem RowV.set {E : TypeId} {w : World} {g N i : Nat} {c : Nat → Value} (h : RowV E w g N c) (hi : i < N) (x : Value) : RowV E (w.setCell ⟨g, i, none⟩ x) g N (updA c i x) := by
  obtain ⟨cur, h1, h2, h3⟩ := h
  refine ⟨cur.setIfInBounds i x, heap_setCell_same w g i cur E _ h1, by simpa using h2, fun j hj => ?_⟩
  by_cases e : j = i
  · subst e
    rw [updA_same, Array.getElem?_setIfInBounds_self_of_lt (by omega)]
  · rw [updA_other e, Array.getElem?_setIfInBounds_ne (by omega)]
    exact h3 j hj

theorem RowV.up {E : TypeId} {w w' : World} {g N : Nat} {c : Nat → Value} (h : RowV E w g N c) (u : Up w w') : RowV E w' g N c := by
  have hl := h.lt
  obtain ⟨cur, h1, h2, h3⟩ := h
  exact ⟨cur, (u.block g hl).trans h1, h2, h3⟩

def Tab (w : World) : Prop := Lib.TabIs Tryd.prog w "internal/strconv.uint64pow10" .u64 Lib.pow10Tab

theorem Tab.up {w w' : World} (h : Tab w) (u : Up w w') : Tab w' := Lib.tabBelow_of_tabIs h w' u

/-- s is a text of digits that say x. -/
def Digs (s : ByteArray) (x : Nat) : Prop := ∃ d : Nat → Nat, 1 ≤ s.size ∧ (∀ i (h : i < s.size), s[i].toNat = 48 + d i ∧ d i ≤ 9) ∧ dec d s.size = x

theorem Digs.zero {s : ByteArray} {x : Nat} (h : Digs s x) : Digs (⟨#[48]⟩ ++ s) x ∧ (⟨#[48]⟩ ++ s : ByteArray).size = s.size + 1 := by
  obtain ⟨d, h1, h2, h3⟩ := h
  have hs : (⟨#[48]⟩ ++ s : ByteArray).size = s.size + 1 := by
    rw [ByteArray.size_append]
    show 1 + s.size = _
    omega
  refine ⟨⟨fun i => if i = 0 then 0 else d (i - 1), by omega, fun i hi => ?_, ?_⟩, hs⟩
  · by_cases e : i = 0
    · subst e
      rw [ByteArray.getElem_append_left (by decide)]
      exact ⟨rfl, by simp⟩
    · obtain ⟨j, rfl⟩ : ∃ j, i = j + 1 := ⟨i - 1, by omega⟩
      rw [ByteArray.getElem_append_right (show (⟨#[48]⟩ : ByteArray).size ≤ j + 1 from by show 1 ≤ j + 1; omega)]
      have e1 : j + 1 - (⟨#[48]⟩ : ByteArray).size = j := by show j + 1 - 1 = j; omega
      have e2 : (if j + 1 = 0 then 0 else d (j + 1 - 1)) = d j := by rw [if_neg (by omega), Nat.add_sub_cancel]
      have h3 := h2 j (by omega)
      simp only [e1, e2]
      exact h3
  · rw [hs, Nat.add_comm, dec_split]
    rw [dec_congr (d := fun i => if 1 + i = 0 then 0 else d (1 + i - 1)) (e := d) (fun i _ => by rw [if_neg (by omega), show 1 + i - 1 = i from by omega])]
    simp [dec, h3]

/-- s is the decimal text of z. -/
def SaysZ (s : ByteArray) (z : Int) : Prop := (0 ≤ z ∧ Says s z.natAbs) ∨ (z < 0 ∧ ∃ t, s = ⟨#[45]⟩ ++ t ∧ Says t z.natAbs)

/-- Behind k digits: x times h's digits are taken from the row, but for what was borrowed (b) and carried (c). -/
def TakeRel (f h : Nat → Nat) (x off n k : Nat) (f' : Nat → Nat) (b c : Nat) : Prop :=
  b ≤ 1 ∧ c < 4294967296 ∧ (∀ i, ¬ (off ≤ i ∧ i < off + k) → f' i = f i) ∧ (∀ i, i < n → f' (off + i) < 4294967296) ∧
  num 4294967296 (fun i => f' (off + i)) k + x * num 4294967296 h k = num 4294967296 (fun i => f (off + i)) k + (b + c) * 4294967296 ^ k

theorem TakeRel.start {f h : Nat → Nat} {x off n : Nat} (hf : ∀ i, i < n → f (off + i) < 4294967296) : TakeRel f h x off n 0 f 0 0 :=
  ⟨by omega, by omega, fun _ _ => rfl, hf, by simp [num]⟩

theorem take_small {x y c : Nat} (hx : x < 4294967296) (hy : y < 4294967296) (hc : c < 4294967296) : c + y * x < 18446744073709551616 := by
  have : y * x ≤ 4294967295 * 4294967295 := Nat.mul_le_mul (by omega) (by omega)
  omega

theorem TakeRel.step {f h f' : Nat → Nat} {x off n k b c y z d b' : Nat} (r : TakeRel f h x off n k f' b c) (hx : x < 4294967296) (hz : f' (off + k) = z) (hy : h k = y) (hyl : y < 4294967296)
    (hd : d < 4294967296) (hb' : b' ≤ 1) (hs : d + (c + y * x) % 4294967296 + b = z + 4294967296 * b') :
    TakeRel f h x off n (k + 1) (upd f' (off + k) d) b' ((c + y * x) / 4294967296) := by
  obtain ⟨h1, h2, h3, h4, h5⟩ := r
  have hsm := take_small hx hyl h2
  refine ⟨hb', by omega, fun i hi => ?_, fun i hi => ?_, ?_⟩
  · rw [upd_other (by omega)]
    exact h3 i (by omega)
  · by_cases e : i = k
    · rw [e, upd_same]; exact hd
    · rw [upd_other (by omega)]; exact h4 i hi
  · rw [num_succ, num_succ, num_succ, upd_same]
    rw [num_congr (g := fun i => f' (off + i)) (fun i hi => upd_other (by omega))]
    have e1 : f (off + k) = z := by rw [← hz]; exact (h3 _ (by omega)).symm
    rw [e1, hy, Nat.pow_succ]
    generalize 4294967296 ^ k = P at *
    generalize hS : c + y * x = S at *
    have e2 : (d + S % 4294967296 + b) * P = (z + 4294967296 * b') * P := by rw [hs]
    rw [Nat.add_mul, Nat.add_mul, Nat.add_mul] at e2
    have e3 : S % 4294967296 * P + S / 4294967296 * (P * 4294967296) = S * P := by
      rw [Nat.mul_comm P, ← Nat.mul_assoc, ← Nat.add_mul, Nat.mul_comm _ 4294967296, Nat.mod_add_div]
    have e4 : S * P = c * P + y * x * P := by rw [← hS, Nat.add_mul]
    have e5 : x * (num 4294967296 h k + y * P) = x * num 4294967296 h k + y * x * P := by rw [Nat.mul_add, ← Nat.mul_assoc, Nat.mul_comm x y]
    have e6 : (b' + S / 4294967296) * (P * 4294967296) = 4294967296 * b' * P + S / 4294967296 * (P * 4294967296) := by
      rw [Nat.add_mul, Nat.mul_comm 4294967296 b', Nat.mul_assoc, Nat.mul_comm 4294967296 P]
    rw [Nat.add_mul] at h5
    rw [e5, e6]
    omega

/-- The last place takes what was carried. -/
theorem TakeRel.last {f h f' : Nat → Nat} {x off n b c z d b' : Nat} (r : TakeRel f h x off (n + 1) n f' b c) (hz : f' (off + n) = z)
    (hd : d < 4294967296) (hs : d + c + b = z + 4294967296 * b') :
    (∀ i, ¬ (off ≤ i ∧ i < off + (n + 1)) → upd f' (off + n) d i = f i) ∧ (∀ i, i < n + 1 → upd f' (off + n) d (off + i) < 4294967296) ∧
    num 4294967296 (fun i => upd f' (off + n) d (off + i)) (n + 1) + x * num 4294967296 h n = num 4294967296 (fun i => f (off + i)) (n + 1) + b' * 4294967296 ^ (n + 1) := by
  obtain ⟨h1, h2, h3, h4, h5⟩ := r
  refine ⟨fun i hi => ?_, fun i hi => ?_, ?_⟩
  · rw [upd_other (by omega)]
    exact h3 i (by omega)
  · by_cases e : i = n
    · rw [e, upd_same]; exact hd
    · rw [upd_other (by omega)]; exact h4 i hi
  · rw [num_succ, num_succ, upd_same]
    rw [num_congr (g := fun i => f' (off + i)) (fun i hi => upd_other (by omega))]
    have e1 : f (off + n) = z := by rw [← hz]; exact (h3 _ (by omega)).symm
    rw [e1, Nat.pow_succ]
    generalize 4294967296 ^ n = P at *
    have e2 : (d + c + b) * P = (z + 4294967296 * b') * P := by rw [hs]
    rw [Nat.add_mul, Nat.add_mul, Nat.add_mul] at e2
    have e3 : 4294967296 * b' * P = b' * (P * 4294967296) := by rw [Nat.mul_comm 4294967296 b', Nat.mul_assoc, Nat.mul_comm 4294967296 P]
    rw [Nat.add_mul] at h5
    omega

/-- The memory is the same; at the most something was drawn. -/
structure Still (w w' : World) : Prop where
  os : w'.os = w.os
  tape : w'.tape = w.tape
  output : w'.output = w.output
  heap : w'.heap = w.heap

theorem Still.refl (w : World) : Still w w := ⟨rfl, rfl, rfl, rfl⟩

theorem Still.drew {w w' : World} (h : Still w w') : Still w w'.drew := ⟨h.os, h.tape, h.output, h.heap⟩

/-- q is the quotient; where the loop stands: first times the guess, and what is left, make the head; the guess is not below q. -/
def GuessRel (first head q g l : Nat) : Prop := g * first + l = head ∧ q ≤ g ∧ l < 4294967296

theorem GuessRel.ok {first second head next g l : Nat} (h1 : g * first + l = head) (hc : g * second ≤ l * 4294967296 + next) : g * (first * 4294967296 + second) ≤ head * 4294967296 + next := by
  rw [Nat.mul_add, ← Nat.mul_assoc, ← h1, Nat.add_mul]
  omega

theorem GuessRel.out {first second head next g l : Nat} (h1 : g * first + l = head) (hl : 4294967296 ≤ l) (hs : second < 4294967296) (hh : head < first * 4294967296 + 4294967296) :
    g < 4294967296 ∧ g * second ≤ l * 4294967296 + next := by
  have hg : g < 4294967296 := by
    apply Nat.lt_of_not_le
    intro hle
    have : 4294967296 * first ≤ g * first := Nat.mul_le_mul_right _ hle
    omega
  refine ⟨hg, ?_⟩
  have h2 : g * second ≤ 4294967296 * 4294967296 := Nat.mul_le_mul (by omega) (by omega)
  have h3 : 4294967296 * 4294967296 ≤ l * 4294967296 := Nat.mul_le_mul_right _ hl
  omega

theorem pow_split (s : Nat) (h : s < 32) : 2 ^ s * 2 ^ (32 - s) = 4294967296 := by
  rw [← Nat.pow_add, show s + (32 - s) = 32 from by omega]

/-- Behind k limbs: f's first k limbs times t, the carry in place k. -/
def ShlRel (f : Nat → Nat) (t k : Nat) (f' : Nat → Nat) : Prop :=
  num 4294967296 f' (k + 1) = num 4294967296 f k * t ∧ f' k < t ∧ (∀ i, i ≤ k → f' i < 4294967296) ∧ (∀ i, k < i → f' i = 0)

theorem lo_join (s x c : Nat) (hs : s < 32) (hc : c < 2 ^ s) : c ||| (x * 2 ^ s % 4294967296) = c + x * 2 ^ s % 4294967296 ∧ c + x * 2 ^ s % 4294967296 < 4294967296 := by
  have hd : 2 ^ s ∣ 4294967296 := ⟨2 ^ (32 - s), (pow_split s hs).symm⟩
  have hm : x * 2 ^ s % 4294967296 % 2 ^ s = 0 := by
    rw [Nat.mod_mod_of_dvd _ hd, Nat.mul_mod_left]
  refine ⟨?_, ?_⟩
  · rw [Nat.or_comm, nat_join s _ _ hm hc, Nat.add_comm]
  · have hl : x * 2 ^ s % 4294967296 < 4294967296 := Nat.mod_lt _ (by decide)
    obtain ⟨a, ha⟩ := Nat.dvd_of_mod_eq_zero hm
    have hp := pow_split s hs
    rw [ha] at hl ⊢
    rw [← hp] at hl ⊢
    have h1 : a < 2 ^ (32 - s) := Nat.lt_of_mul_lt_mul_left hl
    have h2 : 2 ^ s * (a + 1) ≤ 2 ^ s * 2 ^ (32 - s) := Nat.mul_le_mul_left _ h1
    rw [Nat.mul_add, Nat.mul_one] at h2
    omega

theorem ShlRel.step {f f' : Nat → Nat} {s k x c : Nat} (hs : s < 32) (r : ShlRel f (2 ^ s) k f') (hx : f k = x) (hxl : x < 4294967296) (hc : f' k = c) :
    ShlRel f (2 ^ s) (k + 1) (upd (upd f' k (c + x * 2 ^ s % 4294967296)) (k + 1) (x * 2 ^ s / 4294967296)) := by
  obtain ⟨h1, h2, h3, h4⟩ := r
  have hj := lo_join s x c hs (by rw [← hc]; exact h2)
  have hhi : x * 2 ^ s / 4294967296 < 2 ^ s := by
    rw [Nat.div_lt_iff_lt_mul (by decide), Nat.mul_comm]
    exact Nat.mul_lt_mul_of_pos_left hxl (Nat.two_pow_pos s)
  have hsp : 2 ^ s ≤ 4294967296 := by
    have := Nat.pow_le_pow_right (n := 2) (by decide) (show s ≤ 32 by omega)
    exact this
  refine ⟨?_, ?_, fun i hi => ?_, fun i hi => ?_⟩
  · rw [num_succ, num_succ, upd_same, upd_other (by omega), upd_same]
    rw [num_congr (g := f') (fun i hi => by rw [upd_other (by omega), upd_other (by omega)])]
    rw [num_succ, hc] at h1
    have g : (num 4294967296 f k + x * 4294967296 ^ k) * 2 ^ s = num 4294967296 f k * 2 ^ s + x * 2 ^ s * 4294967296 ^ k := by
      rw [Nat.add_mul, Nat.mul_assoc x, Nat.mul_comm (4294967296 ^ k), ← Nat.mul_assoc]
    rw [num_succ, hx, g, ← h1, Nat.pow_succ]
    clear g
    generalize 4294967296 ^ k = P
    generalize x * 2 ^ s = Y at *
    have e : Y % 4294967296 * P + Y / 4294967296 * (P * 4294967296) = Y * P := by
      rw [Nat.mul_comm P, ← Nat.mul_assoc, ← Nat.add_mul, Nat.mul_comm _ 4294967296, Nat.mod_add_div]
    rw [Nat.add_mul c]
    omega
  · rw [upd_same]; exact hhi
  · by_cases e : i = k + 1
    · rw [e, upd_same]; omega
    · rw [upd_other e]
      by_cases e2 : i = k
      · rw [e2, upd_same]; exact hj.2
      · rw [upd_other e2]; exact h3 i (by omega)
  · rw [upd_other (by omega), upd_other (by omega)]
    exact h4 i (by omega)

/-- Behind k limbs of a right shift. -/
def ShrRel (a : Nat → Nat) (t k : Nat) (f' : Nat → Nat) : Prop :=
  t * num 4294967296 f' k + a 0 % t = num 4294967296 a k + a k % t * 4294967296 ^ k ∧ (∀ i, i < k → f' i < 4294967296)

theorem shr_word (s x y : Nat) (hs : s < 32) : (x + y * 4294967296) / 2 ^ s % 4294967296 = (x / 2 ^ s + y % 2 ^ s * 2 ^ (32 - s)) % 4294967296 := by
  have hp := pow_split s hs
  have e1 : (x + y * 4294967296) / 2 ^ s = x / 2 ^ s + y * 2 ^ (32 - s) := by
    rw [← hp, show x + y * (2 ^ s * 2 ^ (32 - s)) = x + 2 ^ s * (y * 2 ^ (32 - s)) from by rw [← Nat.mul_assoc, Nat.mul_comm y, Nat.mul_assoc], Nat.add_mul_div_left _ _ (Nat.two_pow_pos s)]
  rw [e1]
  have e2 : y * 2 ^ (32 - s) = y / 2 ^ s * 4294967296 + y % 2 ^ s * 2 ^ (32 - s) := by
    rw [← hp, ← Nat.mul_assoc, ← Nat.add_mul, Nat.mul_comm _ (2 ^ s), Nat.div_add_mod]
  rw [e2]
  omega

theorem ShrRel.step {a f' : Nat → Nat} {s k x y : Nat} (hs : s < 32) (r : ShrRel a (2 ^ s) k f') (hx : a k = x) (hy : a (k + 1) = y) (hxl : x < 4294967296) :
    ShrRel a (2 ^ s) (k + 1) (upd f' k ((x + y * 4294967296) / 2 ^ s % 4294967296)) := by
  obtain ⟨h1, h2⟩ := r
  have hp := pow_split s hs
  have hpos := Nat.two_pow_pos s
  have hlt : x / 2 ^ s + y % 2 ^ s * 2 ^ (32 - s) < 4294967296 := by
    have h3 : x / 2 ^ s < 2 ^ (32 - s) := by
      rw [Nat.div_lt_iff_lt_mul hpos, Nat.mul_comm, hp]
      exact hxl
    have h4 : (y % 2 ^ s + 1) * 2 ^ (32 - s) ≤ 2 ^ s * 2 ^ (32 - s) := Nat.mul_le_mul_right _ (Nat.mod_lt _ hpos)
    rw [Nat.add_mul, Nat.one_mul, hp] at h4
    omega
  rw [shr_word s x y hs, Nat.mod_eq_of_lt hlt]
  refine ⟨?_, fun i hi => ?_⟩
  · rw [num_succ, num_succ, upd_same, num_congr (g := f') (fun i hi => upd_other (by omega)), hx, hy, Nat.mul_add]
    rw [hx] at h1
    have e1 := Nat.div_add_mod x (2 ^ s)
    have e2 : 2 ^ s * ((x / 2 ^ s + y % 2 ^ s * 2 ^ (32 - s)) * 4294967296 ^ k) = (2 ^ s * (x / 2 ^ s)) * 4294967296 ^ k + y % 2 ^ s * 4294967296 ^ (k + 1) := by
      have ea : ∀ T C P u v : Nat, T * ((u + v * C) * P) = T * u * P + v * (P * (T * C)) := by
        intro T C P u v
        rw [Nat.add_mul, Nat.mul_add, Nat.mul_assoc T u P]
        congr 1
        ac_rfl
      rw [ea, hp, Nat.pow_succ]
    rw [e2]
    have e3 : x * 4294967296 ^ k = (2 ^ s * (x / 2 ^ s)) * 4294967296 ^ k + x % 2 ^ s * 4294967296 ^ k := by rw [← Nat.add_mul, e1]
    omega
  · by_cases e : i = k
    · rw [e, upd_same]; exact hlt
    · rw [upd_other e]; exact h2 i (by omega)

theorem num_top2 (B : Nat) (G : Nat → Nat) (j m : Nat) (h : j < m) : num B (fun i => G (j + i)) (m - j) = G j + B * num B (fun i => G (j + 1 + i)) (m - (j + 1)) := by
  rw [show m - j = m - (j + 1) + 1 from by omega, num_head, Nat.add_zero]
  rw [num_congr (f := fun i => G (j + (1 + i))) (g := fun i => G (j + 1 + i)) (fun i _ => by rw [← Nat.add_assoc])]

/-- Where the quotient's limbs from j on are found: A is those times D, and what the rest holds. -/
def LongRel (A D n m j : Nat) (qf rf : Nat → Nat) : Prop :=
  num 4294967296 rf (n + m) < D * 4294967296 ^ j ∧ A = num 4294967296 (fun i => qf (j + i)) (m - j) * D * 4294967296 ^ j + num 4294967296 rf (n + m) ∧
  (∀ i, i < n + m → rf i < 4294967296) ∧ (∀ i, j ≤ i → i < m → qf i < 4294967296)

theorem LongRel.parts {A D n m j : Nat} {qf rf : Nat → Nat} (r : LongRel A D n m (j + 1) qf rf) (hj : j < m) (hD : D < 4294967296 ^ n) :
    num 4294967296 (fun i => rf (j + i)) (n + 1) < D * 4294967296 ∧ (∀ i, j + (n + 1) ≤ i → i < n + m → rf i = 0) ∧
    num 4294967296 rf (n + m) = num 4294967296 rf j + 4294967296 ^ j * num 4294967296 (fun i => rf (j + i)) (n + 1) := by
  obtain ⟨h1, h2, h3, h4⟩ := r
  have e1 : n + m = (j + (n + 1)) + (m - (j + 1)) := by omega
  have hsp : num 4294967296 rf (n + m) = num 4294967296 rf (j + (n + 1)) + 4294967296 ^ (j + (n + 1)) * num 4294967296 (fun i => rf (j + (n + 1) + i)) (m - (j + 1)) := by
    rw [show num 4294967296 rf (n + m) = num 4294967296 rf ((j + (n + 1)) + (m - (j + 1))) from by rw [← e1], num_split]
  have hz : num 4294967296 (fun i => rf (j + (n + 1) + i)) (m - (j + 1)) = 0 := by
    apply Nat.eq_zero_of_not_pos
    intro hpos
    have h5 : 4294967296 ^ (j + (n + 1)) * 1 ≤ 4294967296 ^ (j + (n + 1)) * num 4294967296 (fun i => rf (j + (n + 1) + i)) (m - (j + 1)) := Nat.mul_le_mul_left _ hpos
    have h6 : D * 4294967296 ^ (j + 1) ≤ 4294967296 ^ n * 4294967296 ^ (j + 1) := Nat.mul_le_mul_right _ (Nat.le_of_lt hD)
    rw [← Nat.pow_add, show n + (j + 1) = j + (n + 1) from by omega] at h6
    omega
  have hzz : ∀ i, i < m - (j + 1) → rf (j + (n + 1) + i) = 0 := by
    have := num_inj (B := 4294967296) (f := fun i => rf (j + (n + 1) + i)) (g := fun _ => 0) (n := m - (j + 1)) (fun i hi => h3 _ (by omega)) (fun _ _ => by decide)
      (by rw [hz, num_tail (n := 0) (by omega) (fun _ _ _ => rfl)]; rfl)
    exact this
  have hval : num 4294967296 rf (n + m) = num 4294967296 rf j + 4294967296 ^ j * num 4294967296 (fun i => rf (j + i)) (n + 1) := by
    rw [hsp, hz, Nat.mul_zero, Nat.add_zero, num_split]
  refine ⟨?_, fun i h5 h6 => ?_, hval⟩
  · have h5 : 4294967296 ^ j * num 4294967296 (fun i => rf (j + i)) (n + 1) < 4294967296 ^ j * (D * 4294967296) := by
      rw [Nat.pow_succ] at h1
      have : D * (4294967296 ^ j * 4294967296) = 4294967296 ^ j * (D * 4294967296) := by ac_rfl
      omega
    exact Nat.lt_of_mul_lt_mul_left h5
  · have := hzz (i - (j + (n + 1))) (by omega)
    rwa [show j + (n + 1) + (i - (j + (n + 1))) = i from by omega] at this

theorem LongRel.step {A D n m j q U' : Nat} {qf rf f' : Nat → Nat} (r : LongRel A D n m (j + 1) qf rf) (hj : j < m) (hD : D < 4294967296 ^ n) (hq : q < 4294967296)
    (ho : ∀ i, ¬ (j ≤ i ∧ i < j + (n + 1)) → f' i = rf i) (hd : ∀ i, i < n + 1 → f' (j + i) < 4294967296)
    (hU : num 4294967296 (fun i => f' (j + i)) (n + 1) = U') (hUq : U' + q * D = num 4294967296 (fun i => rf (j + i)) (n + 1)) (hUD : U' < D) :
    LongRel A D n m j (upd qf j q) f' := by
  obtain ⟨p1, p2, p3⟩ := r.parts hj hD
  obtain ⟨h1, h2, h3, h4⟩ := r
  have hv : num 4294967296 f' (n + m) = num 4294967296 rf j + 4294967296 ^ j * U' := by
    rw [num_tail (n := j + (n + 1)) (by omega) (fun i h5 h6 => by rw [ho i (by omega)]; exact p2 i h5 h6), num_split, hU]
    rw [num_congr (f := f') (g := rf) (n := j) (fun i hi => ho i (by omega))]
  have hlo : num 4294967296 rf j < 4294967296 ^ j := num_lt (fun i hi => h3 i (by omega))
  refine ⟨?_, ?_, fun i hi => ?_, fun i h5 h6 => ?_⟩
  · rw [hv]
    have : 4294967296 ^ j * (U' + 1) ≤ 4294967296 ^ j * D := Nat.mul_le_mul_left _ hUD
    rw [Nat.mul_add, Nat.mul_one] at this
    rw [Nat.mul_comm D]
    omega
  · rw [hv, num_top2 4294967296 (upd qf j q) j m hj, upd_same]
    rw [num_congr (f := fun i => upd qf j q (j + 1 + i)) (g := fun i => qf (j + 1 + i)) (fun i _ => upd_other (by omega))]
    rw [h2, p3, ← hUq, Nat.pow_succ]
    generalize num 4294967296 (fun i => qf (j + 1 + i)) (m - (j + 1)) = Q
    generalize 4294967296 ^ j = P
    generalize num 4294967296 rf j = lo
    have e1 : (q + 4294967296 * Q) * D * P = q * D * P + Q * D * (P * 4294967296) := by
      rw [Nat.add_mul, Nat.add_mul]
      congr 1
      ac_rfl
    have e2 : P * (U' + q * D) = P * U' + q * D * P := by rw [Nat.mul_add, Nat.mul_comm P (q * D)]
    rw [e1, e2]
    omega
  · by_cases e : j ≤ i ∧ i < j + (n + 1)
    · have := hd (i - j) (by omega)
      rwa [show j + (i - j) = i from by omega] at this
    · rw [ho i e]; exact h3 i hi
  · by_cases e : i = j
    · rw [e, upd_same]; exact hq
    · rw [upd_other e]; exact h4 i (by omega) h6

theorem LongRel.done {A D n m : Nat} {qf rf : Nat → Nat} (r : LongRel A D n m 0 qf rf) (hD : D < 4294967296 ^ n) :
    num 4294967296 rf n < D ∧ A = num 4294967296 qf m * D + num 4294967296 rf n := by
  obtain ⟨h1, h2, h3, h4⟩ := r
  have e0 : ∀ q : Nat → Nat, (fun i => q (0 + i)) = q := fun q => by funext i; rw [Nat.zero_add]
  rw [e0, Nat.sub_zero, Nat.pow_zero, Nat.mul_one] at h2
  rw [Nat.pow_zero, Nat.mul_one] at h1
  have hn : num 4294967296 rf (n + m) = num 4294967296 rf n := by
    rw [num_split]
    have : num 4294967296 (fun i => rf (n + i)) m = 0 := by
      apply Nat.eq_zero_of_not_pos
      intro hpos
      have h5 : 4294967296 ^ n * 1 ≤ 4294967296 ^ n * num 4294967296 (fun i => rf (n + i)) m := Nat.mul_le_mul_left _ hpos
      rw [num_split] at h1
      omega
    rw [this, Nat.mul_zero, Nat.add_zero]
  rw [hn] at h1 h2
  exact ⟨h1, h2⟩

theorem Still.below {B : Nat} {a w w' : World} (hb : Below B a w) (s : Still w w') : Below B a w' := hb.trans ⟨s.os, s.tape, s.output, by rw [s.heap]; exact Nat.le_refl _, fun k _ => by rw [s.heap]⟩

theorem Only.row {k : IntKind} {E : TypeId} {w w' : World} {g g2 N n : Nat} {f : Nat → Nat} (h : RowAt k E w g2 N n f) (o : Only g w w') (hne : g2 ≠ g) : RowAt k E w' g2 N n f := h.block (o.block g2 hne)

end Go.Proofs.YteipogfolnlblaaDoor
