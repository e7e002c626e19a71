/-
  What is proved here: num.workAll turns a row of numbers into what is worked at; num.Add answers the sum of all that it is handed.
-/
import Derived.Test.YtjbocfhmfidjjaaDoorNSum
namespace Go.Proofs.YtjbocfhmfidjjaaDoor
open Go Go.RowKit

/-- k numbers, read from an address on. -/
def RdN (w : World) (mo : Option Addr) (k : Nat) (vs : Nat → Value) (bs : Nat → Bool) : Prop :=
  k = 0 ∨ ∃ b off, mo = some ⟨b, off, none⟩ ∧ ∀ i, i < k → w.cell? ⟨b, off + i * 2, none⟩ = some (.bool (bs i)) ∧ w.cell? ⟨b, off + i * 2 + 1, none⟩ = some (vs i)
/-- A block of N cells, not frozen. -/
def RowV (E : TypeId) (w : World) (g N : Nat) (c : Nat → Value) : Prop :=
  ∃ cur, w.heap[g]? = some (.cells cur E (0, 0)) ∧ cur.size = N ∧ ∀ i, i < N → cur[i]? = some (c i)
theorem RowV.cell {E : TypeId} {w : World} {g N i : Nat} {c : Nat → Value} (h : RowV E w g N c) (hi : i < N) : w.cell? ⟨g, i, none⟩ = some (c i) := by
  obtain ⟨cur, h1, h2, h3⟩ := h
  rw [cell_of_row w g i cur E (0, 0) h1]
  exact h3 i hi
theorem RowV.free {E : TypeId} {w : World} {g N : Nat} {c : Nat → Value} (h : RowV E w g N c) (i : Nat) : w.frozen? ⟨g, i, none⟩ = false := by
  obtain ⟨cur, h1, h2, h3⟩ := h
  exact frozen_of_row w g i cur E h1
theorem RowV.lt {E : TypeId} {w : World} {g N : Nat} {c : Nat → Value} (h : RowV E w g N c) : g < w.heap.size := by
  obtain ⟨cur, h1, h2, h3⟩ := h
  exact (Array.getElem?_eq_some_iff.1 h1).1
theorem RowV.set {E : TypeId} {w : World} {g N i : Nat} {c : Nat → Value} (h : RowV E w g N c) (hi : i < N) (x : Value) : RowV E (w.setCell ⟨g, i, none⟩ x) g N (updA c i x) := by
  obtain ⟨cur, h1, h2, h3⟩ := h
  refine ⟨cur.setIfInBounds i x, heap_setCell_same w g i cur E _ h1, by simpa using h2, fun j hj => ?_⟩
  by_cases e : j = i
  · subst e
    rw [updA_same, Array.getElem?_setIfInBounds_self_of_lt (by omega)]
  · rw [updA_other e, Array.getElem?_setIfInBounds_ne (by omega)]
    exact h3 j hj
theorem RowV.up {E : TypeId} {w w' : World} {g N : Nat} {c : Nat → Value} (h : RowV E w g N c) (u : Up w w') : RowV E w' g N c := by
  have hl := h.lt
  obtain ⟨cur, h1, h2, h3⟩ := h
  exact ⟨cur, (u.block g hl).trans h1, h2, h3⟩

theorem infoW : (Tryd.prog.info? 51).map (fun i => (i.zero, i.size, i.bytes)) = some (some (.agg #[.slice none 0 0, .bool false]), 2, 32) := by kernel_rfl

/-- make([]number, n): a block of its own. -/
theorem wpList_mkW {w : World} {ops : Array Oper} {rest : List Oper} {o : Oper} {a : Act} {Q : Exit → Act → World → Prop}
    (hg : o.guard = none) (l c : Operand) (hop : o.op = Op.makeSlice 53 l c)
    (kl kc : IntKind) (L C : Int) (n : Nat) (hl : a.eval l = .int kl L) (hc : a.eval c = .int kc C) (hL : L = (n : Int)) (hC : C = (n : Int)) (b2 : 32 * n ≤ 281474976710656)
    (hK : ∀ w' d, RowV 51 w' w.heap.size (n * 2) d → Up w w' → wpList Tryd.prog ops Q rest (a.put o.dst (.slice (some ⟨w.heap.size, 0, none⟩) n n)) w') :
    wpList Tryd.prog ops Q (o :: rest) a w := by
  obtain ⟨i, hi, hz0, hz1, hz2⟩ := info_parts infoW
  have hrun := run_make (P := Tryd.prog) w 53 51 i _ Tryd.underlying53 hi hz0 kl kc n n (by omega) (by omega) (by rw [hz2]; omega) (by omega)
  simp only [Int.toNat_natCast, hz1] at hrun
  subst hL hC
  refine wpList_plain hg fun K hK' => ?_
  unfold Oper.wp
  simp [execOp, hop, hl, hc, hrun, Result.andThen]
  refine hK' _ _ (hK _ (fun i => ((madeCells (Value.agg #[.slice none 0 0, .bool false]).cells (n * 2))[i]?).getD undef) ⟨_, heap_alloc_new w _, size_madeCells _ _, fun i hi => ?_⟩ (up_alloc w _))
  have h : i < (madeCells (Value.agg #[.slice none 0 0, .bool false]).cells (n * 2)).size := by rw [size_madeCells]; exact hi
  simp only []
  rw [Array.getElem?_eq_getElem h, Option.getD_some]

theorem sumZ_congr {g h : Nat → Int} {k : Nat} (e : ∀ i, i < k → g i = h i) : sumZ g k = sumZ h k := by
  induction k with
  | zero => rfl
  | succ k ih =>
    show sumZ g k + g k = sumZ h k + h k
    rw [ih (fun i hi => e i (by omega)), e k (by omega)]
theorem Up.set2' {w w1 : World} {g i j : Nat} {x y : Value} (u : Up w w1) (hg : w.heap.size ≤ g) : Up w ((w1.setCell ⟨g, i, none⟩ x).setCell ⟨g, j, none⟩ y) :=
  Below.setCell (p := ⟨g, j, none⟩) (Below.setCell (p := ⟨g, i, none⟩) u hg x) hg y

set_option maxRecDepth 4000 in
set_option maxHeartbeats 2000000 in
theorem workAll_any (mo : Option Addr) (k capm M : Nat) (vs : Nat → Value) (bs : Nat → Bool) (ns : Nat → Nat) (fs : Nat → Nat → Nat) (w : World) (hm : RdN w mo k vs bs) (hl : Lsts w M k vs ns fs) (hk : 32 * k ≤ 281474976710656) :
    Calls Tryd.prog 49 #[.slice mo k capm] w fun e w' => ∃ (mo' : Option Addr) (cap' : Nat) (vs' : Nat → Value) (bs' : Nat → Bool) (ms : Nat → Nat), e = .returned (.slice mo' k cap') ∧ k ≤ cap' ∧ RdW w' mo' k vs' bs' ∧ Lsts w M k vs' ms fs ∧ Up w w' ∧
      ∀ i, i < k → CanZ (bs' i) (fs i) (ms i) ∧ ms i ≤ ns i ∧ sgn (bs' i) (num 4294967296 (fs i) (ms i)) = sgn (bs i) (num 4294967296 (fs i) (ns i)) := by
  have HL := hide hl
  clear hl
  go_enter Tryd.func49, Tryd.ntmps49
  go_wp2_with (at_make; refine wpList_mkW rfl _ _ rfl .i64 .i64 _ _ k rfl rfl rfl rfl hk ?_; intro w1 d1 r1 u1)
  go_loopw [11] (fun t11 wr => ∃ (j : Nat) (c : Nat → Value) (vs' : Nat → Value) (bs' : Nat → Bool) (ms : Nat → Nat), j ≤ k ∧ t11 = .int .i64 j ∧ RowV 51 wr w.heap.size (k * 2) c ∧ Up w wr ∧
    Hid (∀ i, i < j → c (i * 2) = vs' i ∧ c (i * 2 + 1) = .bool (bs' i) ∧ Sl .u32 w (vs' i) (ms i) (fs i) ∧ CanZ (bs' i) (fs i) (ms i) ∧ ms i ≤ ns i ∧ sgn (bs' i) (num 4294967296 (fs i) (ms i)) = sgn (bs i) (num 4294967296 (fs i) (ns i)))) (fun t11 _ => k - (intOf t11).toNat)
  case atStart => exact ⟨0, d1, fun _ => .slice none 0 0, fun _ => false, fun _ => 0, Nat.zero_le _, rfl, r1, u1, hide (fun i hi => by omega)⟩
  case round =>
    obtain ⟨j, c, vs', bs', ms, hj, rfl, r, u, HH⟩ := hrel
    clear r1 u1
    have hszr := Below.size u
    have hltr := r.lt
    by_cases hjk : j < k
    · rcases hm with hm | ⟨b, off, rfl, hc⟩
      · omega
      obtain ⟨sj, dj, nj⟩ := unhide HL j hjk
      obtain ⟨aoj, capj, ej, -⟩ := id sj
      have hx0 := (hc j hjk).1
      have hx1 := (hc j hjk).2
      have hbl : b < w.heap.size := World.block_lt_of_cell? w _ hx0
      rw [ej] at hx1 sj
      have hc0 : wr.cell? ⟨b, off + j * 2, none⟩ = some (.bool (bs j)) := (Below.cell u (p := ⟨b, off + j * 2, none⟩) hbl).trans hx0
      have hc1 : wr.cell? ⟨b, off + j * 2 + 1, none⟩ = some (.slice aoj (ns j) capj) := (Below.cell u (p := ⟨b, off + j * 2 + 1, none⟩) hbl).trans hx1
      have HSJ := hide (And.intro sj (And.intro dj nj))
      clear hc hx0 hx1 ej sj dj nj
      generalize hnj : ns j = n at *
      generalize hbj : bs j = bj at *
      have HNJ := hide (And.intro hnj hbj)
      clear hnj hbj
      go_wp2_with fail
      refine (work_any _ bj n (fs j) _ ⟨_, rfl, ((unhide HSJ).1.up u).up (up_alloc _ _)⟩ (unhide HSJ).2.1).mono ?_
      rintro e w2 ⟨a2, b2, m2, rfl, hw2, u2, c2, l2, s2⟩
      obtain ⟨v2, rfl, sv2⟩ := hw2 w ⟨_, rfl, (unhide HSJ).1⟩
      obtain ⟨ao2, cap2, rfl, -⟩ := id sv2
      have HS2 := hide (And.intro sv2 (And.intro c2 (And.intro l2 s2)))
      have r2 := (r.up (up_alloc _ _)).up u2
      have u2' : Up w w2 := (u.tr (up_alloc _ _)).tr u2
      have hy0 := r2.cell (i := j * 2) (by omega)
      have hy1 := r2.cell (i := j * 2 + 1) (by omega)
      have hf0 := r2.free (j * 2)
      have hf1 := r2.free (j * 2 + 1)
      have HR := hide r2
      have HU := hide u2'
      clear sv2 c2 l2 s2 r2 u2' r u u2 hw2
      go_wp2_with fail
      go_roundw
      case rel =>
        refine ⟨j + 1, _, updA vs' j (.slice ao2 m2 cap2), updA bs' j b2, updA ms j m2, by omega, by go_num, ((unhide HR).set (by omega) _).set (by omega) _, Up.set2' (unhide HU) (Nat.le_refl _), hide (fun i hi => ?_)⟩
        obtain ⟨sv2, c2, l2, s2⟩ := unhide HS2
        obtain ⟨e1, e2⟩ := unhide HNJ
        by_cases e : i = j
        · subst e
          rw [updA_same, updA_same, updA_same, updA_other (by omega), updA_same, updA_same, e1, e2]
          exact ⟨rfl, rfl, sv2, c2, l2, s2⟩
        · rw [updA_other e, updA_other e, updA_other e, updA_other (by omega), updA_other (by omega), updA_other (by omega), updA_other (by omega)]
          exact unhide HH i (by omega)
      case measure => simp [intOf]; omega
    · obtain rfl : j = k := by omega
      have HR := hide r
      have HU := hide u
      clear r u
      go_wp2_with fail
      go_ret
      have H := unhide HH
      refine ⟨_, _, vs', bs', ms, rfl, Nat.le_refl _, .inr ⟨_, 0, rfl, fun i hi => ?_⟩, fun i hi => ⟨(H i hi).2.2.1, (H i hi).2.2.2.1.1.1, ?_⟩, unhide HU, fun i hi => (H i hi).2.2.2⟩
      · rw [Nat.zero_add, (unhide HR).cell (i := i * 2) (by omega), (unhide HR).cell (i := i * 2 + 1) (by omega), (H i hi).1, (H i hi).2.1]
        exact ⟨rfl, rfl⟩
      · exact Nat.le_trans (H i hi).2.2.2.2.1 (unhide HL i hi).2.2

def pair {α : Type} (x y : α) : Nat → α := fun i => if i = 0 then x else y
theorem rdw_two (w : World) (v1 v2 : Value) (b1 b2 : Bool) (E : TypeId) : RdW (w.alloc (.cells #[v1, .bool b1, v2, .bool b2] E)) (some ⟨w.heap.size, 0, none⟩) 2 (pair v1 v2) (pair b1 b2) := by
  refine .inr ⟨w.heap.size, 0, rfl, fun i hi => ?_⟩
  rw [cell_of_row _ _ _ _ _ _ (heap_alloc_new w _), cell_of_row _ _ _ _ _ _ (heap_alloc_new w _)]
  match i, hi with
  | 0, _ => exact ⟨rfl, rfl⟩
  | 1, _ => exact ⟨rfl, rfl⟩
theorem rdn_two (w : World) (v1 v2 : Value) (b1 b2 : Bool) (E : TypeId) : RdN (w.alloc (.cells #[.bool b1, v1, .bool b2, v2] E)) (some ⟨w.heap.size, 0, none⟩) 2 (pair v1 v2) (pair b1 b2) := by
  refine .inr ⟨w.heap.size, 0, rfl, fun i hi => ?_⟩
  rw [cell_of_row _ _ _ _ _ _ (heap_alloc_new w _), cell_of_row _ _ _ _ _ _ (heap_alloc_new w _)]
  match i, hi with
  | 0, _ => exact ⟨rfl, rfl⟩
  | 1, _ => exact ⟨rfl, rfl⟩
theorem rdn_one (w : World) (v1 : Value) (b1 : Bool) (E : TypeId) : RdN (w.alloc (.cells #[.bool b1, v1] E)) (some ⟨w.heap.size, 0, none⟩) 1 (fun _ => v1) (fun _ => b1) := by
  refine .inr ⟨w.heap.size, 0, rfl, fun i hi => ?_⟩
  rw [cell_of_row _ _ _ _ _ _ (heap_alloc_new w _), cell_of_row _ _ _ _ _ _ (heap_alloc_new w _)]
  match i, hi with
  | 0, _ => exact ⟨rfl, rfl⟩
theorem lsts_two {w : World} {M n1 n2 : Nat} {v1 v2 : Value} {f1 f2 : Nat → Nat} (h1 : Sl .u32 w v1 n1 f1) (h2 : Sl .u32 w v2 n2 f2) (d1 : ∀ i, i < n1 → f1 i < 4294967296) (d2 : ∀ i, i < n2 → f2 i < 4294967296) (l1 : n1 ≤ M) (l2 : n2 ≤ M) :
    Lsts w M 2 (pair v1 v2) (pair n1 n2) (pair f1 f2) := by
  intro j hj
  match j, hj with
  | 0, _ => exact ⟨h1, d1, l1⟩
  | 1, _ => exact ⟨h2, d2, l2⟩

/-- The sum of two numbers that are worked at, laid side by side. -/
theorem sum2_any (g : Nat) (v1 v2 : Value) (b1 b2 : Bool) (n1 n2 M : Nat) (f1 f2 : Nat → Nat) (E : TypeId) (w : World) (hg : g = w.heap.size) (h1 : Sl .u32 w v1 n1 f1) (h2 : Sl .u32 w v2 n2 f2) (d1 : ∀ i, i < n1 → f1 i < 4294967296) (d2 : ∀ i, i < n2 → f2 i < 4294967296) (l1 : n1 ≤ M) (l2 : n2 ≤ M) (hM : 4 * (M + 1) ≤ 281474976710656) :
    Calls Tryd.prog 48 #[.slice (some ⟨g, 0, none⟩) 2 2] (w.alloc (.cells #[v1, .bool b1, v2, .bool b2] E)) fun e w' => ∃ a b n f, e = .returned a ∧ OwnW w' w.heap.size a b n f ∧ Up w w' ∧ CanZ b f n ∧ n ≤ M + 1 ∧
      sgn b (num 4294967296 f n) = sgn b1 (num 4294967296 f1 n1) + sgn b2 (num 4294967296 f2 n2) := by
  subst hg
  refine (sum_any _ 2 2 M (pair v1 v2) (pair b1 b2) (pair n1 n2) (pair f1 f2) _ (rdw_two w v1 v2 b1 b2 E) ((lsts_two h1 h2 d1 d2 l1 l2).up (up_alloc w _)) (Nat.le_refl _) hM (by decide)).mono ?_
  rintro e w' ⟨a, b, n, f, rfl, ⟨v, rfl, o⟩, u, c, l, s⟩
  refine ⟨_, b, n, f, rfl, ⟨_, rfl, o.mono (by simp)⟩, (up_alloc w _).tr u, c, l, ?_⟩
  rw [s]
  simp [sumZ, pair]

set_option maxRecDepth 4000 in
set_option maxHeartbeats 1000000 in
theorem addz_any (mo : Option Addr) (k capm M : Nat) (vs : Nat → Value) (bs : Nat → Bool) (ns : Nat → Nat) (fs : Nat → Nat → Nat) (w : World) (hm : RdN w mo k vs bs) (hl : Lsts w M k vs ns fs) (hM : 4 * (M + 1) ≤ 281474976710656) (hk : k + 2 ≤ 4294967296) :
    Calls Tryd.prog 17 #[.slice mo k capm] w fun e w' => ∃ a b n f, e = .returned a ∧ OwnN w' w.heap.size a b n f ∧ Up w w' ∧ CanZ b f n ∧ n ≤ M + 1 ∧ sgn b (num 4294967296 f n) = sumZ (fun i => sgn (bs i) (num 4294967296 (fs i) (ns i))) k := by
  have hm' : RdN (w.alloc (.cells #[.bool false, .slice none 0 0] 26)) mo k vs bs := by
    rcases hm with h | ⟨b, off, rfl, hc⟩
    · exact .inl h
    · by_cases h0 : k = 0
      · exact .inl h0
      · have hb : b < w.heap.size := World.block_lt_of_cell? w _ (hc 0 (by omega)).1
        exact .inr ⟨b, off, rfl, fun i hi => ⟨(Below.cell (up_alloc w _) (p := ⟨b, off + i * 2, none⟩) hb).trans (hc i hi).1, (Below.cell (up_alloc w _) (p := ⟨b, off + i * 2 + 1, none⟩) hb).trans (hc i hi).2⟩⟩
  have HL := hide hl
  clear hl hm
  go_enter Tryd.func17, Tryd.ntmps17
  go_wp2_with fail
  refine (workAll_any mo k capm M vs bs ns fs _ hm' ((unhide HL).up (up_alloc w _)) (by omega)).mono ?_
  rintro e w1 ⟨mo1, cap1, vs1, bs1, ms1, rfl, hcap1, rw1, l1, u1, hs1⟩
  have HS1 := hide hs1
  clear hs1 hm'
  go_wp2_with fail
  refine (sum_any mo1 k cap1 M vs1 bs1 ms1 fs _ rw1 (l1.up u1) hcap1 hM hk).mono ?_
  rintro e w2 ⟨a2, b2, n2, f2, rfl, o2, u2, c2, l2, s2⟩
  have HS2 := hide s2
  clear s2
  obtain ⟨v2, rfl, o2⟩ := o2
  obtain ⟨ao2, cap2, rfl, -⟩ := id o2.sl
  go_wp2_with fail
  refine (answer_any _ b2 n2 f2 _ ⟨_, rfl, o2.sl⟩).mono ?_
  rintro e w3 ⟨a3, rfl, h3, u3⟩
  obtain rfl := h3 _ rfl
  obtain ⟨d0, d1, g0, g1, lt, e0, e1⟩ := res2 w.heap.size rfl ((u1.tr u2).tr u3)
  have hz : w.heap.size < w1.heap.size := by have := Below.size u1; simp at this; omega
  go_wp2_with fail
  refine bodyPost_ret (by simp [results, Tryd.results17, go_sem, e0, e1]; rfl) rfl ?_
  refine ⟨_, b2, n2, f2, rfl, ⟨_, rfl, ((o2.up u3).set2 hz).mono (by omega)⟩, Up.set2 ((up_alloc w _).tr ((u1.tr u2).tr u3)) (Nat.le_refl _), c2, l2, ?_⟩
  rw [unhide HS2]
  exact sumZ_congr (fun i hi => (unhide HS1 i hi).2.2)

/-- The sum of two numbers, laid side by side. -/
theorem addz2 (g : Nat) (v1 v2 : Value) (b1 b2 : Bool) (n1 n2 M : Nat) (f1 f2 : Nat → Nat) (E : TypeId) (w : World) (hg : g = w.heap.size) (h1 : Sl .u32 w v1 n1 f1) (h2 : Sl .u32 w v2 n2 f2) (d1 : ∀ i, i < n1 → f1 i < 4294967296) (d2 : ∀ i, i < n2 → f2 i < 4294967296) (l1 : n1 ≤ M) (l2 : n2 ≤ M) (hM : 4 * (M + 1) ≤ 281474976710656) :
    Calls Tryd.prog 17 #[.slice (some ⟨g, 0, none⟩) 2 2] (w.alloc (.cells #[.bool b1, v1, .bool b2, v2] E)) fun e w' => ∃ a b n f, e = .returned a ∧ OwnN w' w.heap.size a b n f ∧ Up w w' ∧ CanZ b f n ∧ n ≤ M + 1 ∧
      sgn b (num 4294967296 f n) = sgn b1 (num 4294967296 f1 n1) + sgn b2 (num 4294967296 f2 n2) := by
  subst hg
  refine (addz_any _ 2 2 M (pair v1 v2) (pair b1 b2) (pair n1 n2) (pair f1 f2) _ (rdn_two w v1 v2 b1 b2 E) ((lsts_two h1 h2 d1 d2 l1 l2).up (up_alloc w _)) hM (by decide)).mono ?_
  rintro e w' ⟨a, b, n, f, rfl, ⟨v, rfl, o⟩, u, c, l, s⟩
  refine ⟨_, b, n, f, rfl, ⟨_, rfl, o.mono (by simp)⟩, (up_alloc w _).tr u, c, l, ?_⟩
  rw [s]
  simp [sumZ, pair]

/-- One number's sum. -/
theorem addz1 (g : Nat) (v1 : Value) (b1 : Bool) (n1 M : Nat) (f1 : Nat → Nat) (E : TypeId) (w : World) (hg : g = w.heap.size) (h1 : Sl .u32 w v1 n1 f1) (d1 : ∀ i, i < n1 → f1 i < 4294967296) (l1 : n1 ≤ M) (hM : 4 * (M + 1) ≤ 281474976710656) :
    Calls Tryd.prog 17 #[.slice (some ⟨g, 0, none⟩) 1 1] (w.alloc (.cells #[.bool b1, v1] E)) fun e w' => ∃ a b n f, e = .returned a ∧ OwnN w' w.heap.size a b n f ∧ Up w w' ∧ CanZ b f n ∧ n ≤ M + 1 ∧
      sgn b (num 4294967296 f n) = sgn b1 (num 4294967296 f1 n1) := by
  subst hg
  refine (addz_any _ 1 1 M (fun _ => v1) (fun _ => b1) (fun _ => n1) (fun _ => f1) _ (rdn_one w v1 b1 E) (fun j hj => ⟨h1.up (up_alloc w _), d1, l1⟩) hM (by decide)).mono ?_
  rintro e w' ⟨a, b, n, f, rfl, ⟨v, rfl, o⟩, u, c, l, s⟩
  refine ⟨_, b, n, f, rfl, ⟨_, rfl, o.mono (by simp)⟩, (up_alloc w _).tr u, c, l, ?_⟩
  rw [s]
  simp [sumZ]

end Go.Proofs.YtjbocfhmfidjjaaDoor
