/-
  What is proved here: plain facts on numbers written as digits to a base, and on rows of numbers in memory; no walk.
-/
import Derived.WalkKit
import Derived.WalkSpells
namespace Go.Proofs.Ytilcigjhogcjkaa
open Go Go.RowKit

theorem hide {p : Prop} (h : p) : Hid p := h
theorem unhide {p : Prop} (h : Hid p) : p := h

/-- The number whose first n digits to the base B are f 0, f 1, .. -/
def num (B : Nat) (f : Nat → Nat) : Nat → Nat
  | 0 => 0
  | k + 1 => num B f k + f k * B ^ k

theorem num_zero (B : Nat) (f : Nat → Nat) : num B f 0 = 0 := rfl
theorem num_succ (B : Nat) (f : Nat → Nat) (k : Nat) : num B f (k + 1) = num B f k + f k * B ^ k := rfl

theorem num_congr {B : Nat} {f g : Nat → Nat} {n : Nat} (h : ∀ i, i < n → f i = g i) : num B f n = num B g n := by
  induction n with
  | zero => rfl
  | succ k ih => rw [num_succ, num_succ, ih (fun i hi => h i (by omega)), h k (by omega)]

theorem num_lt {B : Nat} {f : Nat → Nat} {n : Nat} (h : ∀ i, i < n → f i < B) : num B f n < B ^ n := by
  induction n with
  | zero => simp [num]
  | succ k ih =>
    have h1 := ih (fun i hi => h i (by omega))
    have h2 : f k + 1 ≤ B := h k (by omega)
    have h3 : (f k + 1) * B ^ k ≤ B * B ^ k := Nat.mul_le_mul_right _ h2
    rw [num_succ, Nat.pow_succ]
    rw [Nat.add_mul, Nat.one_mul, Nat.mul_comm B] at h3
    omega

theorem num_split (B : Nat) (f : Nat → Nat) (n m : Nat) : num B f (n + m) = num B f n + B ^ n * num B (fun i => f (n + i)) m := by
  induction m with
  | zero => simp [num]
  | succ k ih =>
    rw [← Nat.add_assoc, num_succ, ih, num_succ, Nat.mul_add, Nat.pow_add, Nat.add_assoc]
    congr 2
    rw [← Nat.mul_assoc, ← Nat.mul_assoc, Nat.mul_comm (f (n + k)) (B ^ n)]

theorem num_tail {B : Nat} {f : Nat → Nat} {n m : Nat} (h : n ≤ m) (hz : ∀ i, n ≤ i → i < m → f i = 0) : num B f m = num B f n := by
  obtain ⟨d, rfl⟩ : ∃ d, m = n + d := ⟨m - n, by omega⟩
  clear h
  induction d with
  | zero => rfl
  | succ k ih =>
    rw [← Nat.add_assoc, num_succ, hz (n + k) (by omega) (by omega), ih (fun i h1 h2 => hz i h1 (by omega))]
    simp

theorem num_ge {B : Nat} {f : Nat → Nat} {n : Nat} (hn : 0 < n) (h : f (n - 1) ≠ 0) : B ^ (n - 1) ≤ num B f n := by
  obtain ⟨k, rfl⟩ : ∃ k, n = k + 1 := ⟨n - 1, by omega⟩
  simp only [Nat.add_sub_cancel] at h ⊢
  rw [num_succ]
  have : 1 * B ^ k ≤ f k * B ^ k := Nat.mul_le_mul_right _ (by omega)
  omega

/-- Canonical: digits below the base, the highest not 0. -/
def Can (B : Nat) (f : Nat → Nat) (n : Nat) : Prop := (∀ i, i < n → f i < B) ∧ (n = 0 ∨ f (n - 1) ≠ 0)

theorem can_lt {B : Nat} (hB : 0 < B) {f g : Nat → Nat} {n m : Nat} (hf : ∀ i, i < n → f i < B) (hg : Can B g m) (h : n < m) : num B f n < num B g m := by
  have h1 := num_lt hf
  have h2 := num_ge (B := B) (f := g) (n := m) (by omega) (by rcases hg.2 with h | h; omega; exact h)
  have h3 : B ^ n ≤ B ^ (m - 1) := Nat.pow_le_pow_right hB (by omega)
  omega

theorem num_inj {B : Nat} {f g : Nat → Nat} {n : Nat} (hf : ∀ i, i < n → f i < B) (hg : ∀ i, i < n → g i < B) (h : num B f n = num B g n) : ∀ i, i < n → f i = g i := by
  induction n with
  | zero => intro i hi; omega
  | succ k ih =>
    have h1 := num_lt (B := B) (f := f) (n := k) (fun i hi => hf i (by omega))
    have h2 := num_lt (B := B) (f := g) (n := k) (fun i hi => hg i (by omega))
    rw [num_succ, num_succ] at h
    have hk : f k = g k := by
      have e1 : (num B f k + f k * B ^ k) / B ^ k = f k := by
        rw [Nat.add_mul_div_right _ _ (by omega), Nat.div_eq_of_lt h1, Nat.zero_add]
      have e2 : (num B g k + g k * B ^ k) / B ^ k = g k := by
        rw [Nat.add_mul_div_right _ _ (by omega), Nat.div_eq_of_lt h2, Nat.zero_add]
      rw [← e1, ← e2, h]
    rw [hk] at h
    intro i hi
    by_cases e : i = k
    · rw [e]; exact hk
    · exact ih (fun i hi => hf i (by omega)) (fun i hi => hg i (by omega)) (by omega) i (by omega)

theorem can_len {B : Nat} (hB : 0 < B) {f g : Nat → Nat} {n m : Nat} (hf : Can B f n) (hg : Can B g m) (h : num B f n = num B g m) : n = m := by
  rcases Nat.lt_trichotomy n m with hl | hl | hl
  · have := can_lt hB hf.1 hg hl; omega
  · exact hl
  · have := can_lt hB hg.1 hf hl; omega

theorem can_uniq {B : Nat} (hB : 0 < B) {f g : Nat → Nat} {n m : Nat} (hf : Can B f n) (hg : Can B g m) (h : num B f n = num B g m) : n = m ∧ ∀ i, i < n → f i = g i := by
  obtain rfl := can_len hB hf hg h
  exact ⟨rfl, num_inj hf.1 hg.1 h⟩

/-- Digits that part at place i, the higher ones the same: the lower digit's number is below. -/
theorem num_less {B : Nat} {f g : Nat → Nat} {n i : Nat} (hf : ∀ j, j < n → f j < B) (hi : i < n) (hlt : f i < g i) (hs : ∀ j, i < j → j < n → f j = g j) : num B f n < num B g n := by
  have e : n = (i + 1) + (n - (i + 1)) := by omega
  rw [e, num_split, num_split B g]
  have h1 : num B (fun j => f (i + 1 + j)) (n - (i + 1)) = num B (fun j => g (i + 1 + j)) (n - (i + 1)) := num_congr fun j hj => hs _ (by omega) (by omega)
  rw [h1, num_succ, num_succ]
  have h2 := num_lt (B := B) (f := f) (n := i) (fun j hj => hf j (by omega))
  have h3 : (f i + 1) * B ^ i ≤ g i * B ^ i := Nat.mul_le_mul_right _ hlt
  rw [Nat.add_mul, Nat.one_mul] at h3
  omega

/-- One digit turned. -/
def upd (f : Nat → Nat) (i x : Nat) : Nat → Nat := fun j => if j = i then x else f j
theorem upd_same (f : Nat → Nat) (i x : Nat) : upd f i x i = x := by simp [upd]
theorem upd_other {f : Nat → Nat} {i x j : Nat} (h : j ≠ i) : upd f i x j = f j := by simp [upd, h]

/-- n numbers of kind k, read from an address on. -/
def Rd (k : IntKind) (w : World) (ao : Option Addr) (n : Nat) (f : Nat → Nat) : Prop :=
  n = 0 ∨ ∃ b off, ao = some ⟨b, off, none⟩ ∧ ∀ i, i < n → w.cell? ⟨b, off + i, none⟩ = some (.int k (f i))

/-- A slice value that can be read. -/
def Sl (k : IntKind) (w : World) (v : Value) (n : Nat) (f : Nat → Nat) : Prop :=
  ∃ ao cap, v = .slice ao n cap ∧ n ≤ cap ∧ cap ≤ 9223372036854775807 ∧ (ao = none → cap = 0) ∧ Rd k w ao n f

/-- A block of N cells of type E, not frozen, whose first n cells are numbers of kind k. -/
def RowAt (k : IntKind) (E : TypeId) (w : World) (g N n : Nat) (f : Nat → Nat) : Prop :=
  ∃ cur, w.heap[g]? = some (.cells cur E (0, 0)) ∧ cur.size = N ∧ n ≤ N ∧ ∀ i, i < n → cur[i]? = some (.int k (f i))

/-- Nothing but block g has turned; no block has come. -/
structure Only (g : Nat) (w w' : World) : Prop where
  os : w'.os = w.os
  tape : w'.tape = w.tape
  output : w'.output = w.output
  size : w'.heap.size = w.heap.size
  block : ∀ k, k ≠ g → w'.heap[k]? = w.heap[k]?

theorem Only.refl (g : Nat) (w : World) : Only g w w := ⟨rfl, rfl, rfl, rfl, fun _ _ => rfl⟩
theorem Only.trans {g : Nat} {a b c : World} (h : Only g a b) (k : Only g b c) : Only g a c :=
  ⟨k.os.trans h.os, k.tape.trans h.tape, k.output.trans h.output, k.size.trans h.size, fun i hi => (k.block i hi).trans (h.block i hi)⟩
theorem Only.drew {g : Nat} {a w : World} (h : Only g a w) : Only g a w.drew := ⟨h.os, h.tape, h.output, h.size, h.block⟩
theorem Only.setCell {g : Nat} {a w : World} (h : Only g a w) (i : Nat) (u : Value) : Only g a (w.setCell ⟨g, i, none⟩ u) :=
  h.trans ⟨rfl, rfl, rfl, by simp [World.setCell], fun k hk => heap_setCell_other _ _ _ _ hk⟩
theorem Only.cell {g : Nat} {w w' : World} (h : Only g w w') {p : Addr} (hp : p.block ≠ g) : w'.cell? p = w.cell? p := World.cell?_of_block (w := w) (h.block p.block hp)
theorem Only.below {g B : Nat} {a w w' : World} (hb : Below B a w) (h : Only g w w') (hg : B ≤ g) : Below B a w' :=
  hb.trans ⟨h.os, h.tape, h.output, by rw [h.size]; exact Nat.le_refl _, fun k hk => h.block k (by omega)⟩

theorem RowAt.cell {k : IntKind} {E : TypeId} {w : World} {g N n : Nat} {f : Nat → Nat} (h : RowAt k E w g N n f) {i : Nat} (hi : i < n) : w.cell? ⟨g, i, none⟩ = some (.int k (f i)) := by
  obtain ⟨cur, h1, h2, h3, h4⟩ := h
  rw [cell_of_row w g i cur E (0, 0) h1]
  exact h4 i hi
theorem RowAt.free {k : IntKind} {E : TypeId} {w : World} {g N n : Nat} {f : Nat → Nat} (h : RowAt k E w g N n f) (i : Nat) : w.frozen? ⟨g, i, none⟩ = false := by
  obtain ⟨cur, h1, h2, h3, h4⟩ := h
  exact frozen_of_row w g i cur E h1
theorem RowAt.lt {k : IntKind} {E : TypeId} {w : World} {g N n : Nat} {f : Nat → Nat} (h : RowAt k E w g N n f) : g < w.heap.size := by
  obtain ⟨cur, h1, h2, h3, h4⟩ := h
  exact (Array.getElem?_eq_some_iff.1 h1).1
theorem RowAt.le {k : IntKind} {E : TypeId} {w : World} {g N n : Nat} {f : Nat → Nat} (h : RowAt k E w g N n f) : n ≤ N := by
  obtain ⟨cur, h1, h2, h3, h4⟩ := h
  exact h3
theorem RowAt.set {k : IntKind} {E : TypeId} {w : World} {g N n : Nat} {f : Nat → Nat} (h : RowAt k E w g N n f) {i : Nat} (hi : i < n) (x : Nat) : RowAt k E (w.setCell ⟨g, i, none⟩ (.int k x)) g N n (upd f i x) := by
  obtain ⟨cur, h1, h2, h3, h4⟩ := h
  refine ⟨cur.setIfInBounds i (.int k x), heap_setCell_same w g i cur E _ h1, by simpa using h2, h3, fun j hj => ?_⟩
  by_cases e : j = i
  · subst e
    rw [upd_same, Array.getElem?_setIfInBounds_self_of_lt (by omega)]
  · rw [upd_other e, Array.getElem?_setIfInBounds_ne (by omega)]
    exact h4 j hj
theorem RowAt.mono {k : IntKind} {E : TypeId} {w : World} {g N n m : Nat} {f : Nat → Nat} (h : RowAt k E w g N n f) (hm : m ≤ n) : RowAt k E w g N m f := by
  obtain ⟨cur, h1, h2, h3, h4⟩ := h
  exact ⟨cur, h1, h2, by omega, fun i hi => h4 i (by omega)⟩
theorem RowAt.congr {k : IntKind} {E : TypeId} {w : World} {g N n : Nat} {f f' : Nat → Nat} (h : RowAt k E w g N n f) (hf : ∀ i, i < n → f i = f' i) : RowAt k E w g N n f' := by
  obtain ⟨cur, h1, h2, h3, h4⟩ := h
  exact ⟨cur, h1, h2, h3, fun i hi => by rw [h4 i hi, hf i hi]⟩
theorem RowAt.block {k : IntKind} {E : TypeId} {w w' : World} {g N n : Nat} {f : Nat → Nat} (h : RowAt k E w g N n f) (hb : w'.heap[g]? = w.heap[g]?) : RowAt k E w' g N n f := by
  obtain ⟨cur, h1, h2, h3, h4⟩ := h
  exact ⟨cur, hb.trans h1, h2, h3, h4⟩

theorem Rd.lt {k : IntKind} {w : World} {b off n : Nat} {f : Nat → Nat} (h : ∀ i, i < n → w.cell? ⟨b, off + i, none⟩ = some (.int k (f i))) (hn : 0 < n) : b < w.heap.size :=
  World.block_lt_of_cell? w _ (h 0 hn)

theorem Rd.below {k : IntKind} {B : Nat} {w w' : World} {ao : Option Addr} {n : Nat} {f : Nat → Nat} (h : Rd k w ao n f) (hb : Below B w w') (hB : w.heap.size ≤ B) : Rd k w' ao n f := by
  rcases h with h | ⟨b, off, rfl, hc⟩
  · exact .inl h
  · by_cases hn : n = 0
    · exact .inl hn
    · have hl := Rd.lt hc (by omega)
      exact .inr ⟨b, off, rfl, fun i hi => (hb.cell (p := ⟨b, off + i, none⟩) (by show b < B; omega)).trans (hc i hi)⟩
theorem Rd.only {k : IntKind} {g : Nat} {w w' : World} {ao : Option Addr} {n : Nat} {f : Nat → Nat} (h : Rd k w ao n f) (hb : Only g w w') (hB : ∀ a, ao = some a → n ≠ 0 → a.block ≠ g) : Rd k w' ao n f := by
  rcases h with h | ⟨b, off, rfl, hc⟩
  · exact .inl h
  · by_cases hn : n = 0
    · exact .inl hn
    · exact .inr ⟨b, off, rfl, fun i hi => (hb.cell (p := ⟨b, off + i, none⟩) (hB ⟨b, off, none⟩ rfl hn)).trans (hc i hi)⟩
theorem Rd.mono {k : IntKind} {w : World} {ao : Option Addr} {n m : Nat} {f : Nat → Nat} (h : Rd k w ao n f) (hm : m ≤ n) : Rd k w ao m f := by
  rcases h with h | ⟨b, off, rfl, hc⟩
  · exact .inl (by omega)
  · exact .inr ⟨b, off, rfl, fun i hi => hc i (by omega)⟩
theorem Sl.below {k : IntKind} {B : Nat} {w w' : World} {v : Value} {n : Nat} {f : Nat → Nat} (h : Sl k w v n f) (hb : Below B w w') (hB : w.heap.size ≤ B) : Sl k w' v n f := by
  obtain ⟨ao, cap, rfl, h1, h2, h0, h3⟩ := h
  exact ⟨ao, cap, rfl, h1, h2, h0, h3.below hb hB⟩
theorem RowAt.rd {k : IntKind} {E : TypeId} {w : World} {g N n : Nat} {f : Nat → Nat} (h : RowAt k E w g N n f) : Rd k w (some ⟨g, 0, none⟩) n f :=
  .inr ⟨g, 0, rfl, fun i hi => by rw [Nat.zero_add]; exact h.cell hi⟩

/-- What a call made and hands back: nothing; or the head of a block of its own (from 'base' on). -/
def Own (k : IntKind) (E : TypeId) (w : World) (base : Nat) (v : Value) (n : Nat) (f : Nat → Nat) : Prop :=
  (v = .slice none 0 0 ∧ n = 0) ∨ ∃ g cap, v = .slice (some ⟨g, 0, none⟩) n cap ∧ base ≤ g ∧ cap ≤ 9223372036854775807 ∧ RowAt k E w g cap n f

theorem Own.sl {k : IntKind} {E : TypeId} {w : World} {base : Nat} {v : Value} {n : Nat} {f : Nat → Nat} (h : Own k E w base v n f) : Sl k w v n f := by
  rcases h with ⟨rfl, rfl⟩ | ⟨g, cap, rfl, h1, h2, h3⟩
  · exact ⟨none, 0, rfl, by omega, by omega, fun _ => rfl, .inl rfl⟩
  · exact ⟨_, cap, rfl, h3.le, h2, (fun h => by cases h), h3.rd⟩
theorem Own.below {k : IntKind} {E : TypeId} {w w' : World} {base B : Nat} {v : Value} {n : Nat} {f : Nat → Nat} (h : Own k E w base v n f) (hb : Below B w w') (hB : w.heap.size ≤ B) : Own k E w' base v n f := by
  rcases h with ⟨rfl, rfl⟩ | ⟨g, cap, rfl, h1, h2, h3⟩
  · exact .inl ⟨rfl, rfl⟩
  · exact .inr ⟨g, cap, rfl, h1, h2, h3.block (hb.block g (by have := h3.lt; omega))⟩
theorem Own.mono {k : IntKind} {E : TypeId} {w : World} {base base' : Nat} {v : Value} {n : Nat} {f : Nat → Nat} (h : Own k E w base v n f) (hB : base' ≤ base) : Own k E w base' v n f := by
  rcases h with ⟨rfl, rfl⟩ | ⟨g, cap, rfl, h1, h2, h3⟩
  · exact .inl ⟨rfl, rfl⟩
  · exact .inr ⟨g, cap, rfl, by omega, h2, h3⟩

/-- The cells of n numbers, as a list. -/
def cellsOf (k : IntKind) (f : Nat → Nat) (n : Nat) : List Value := (List.range n).map fun i => Value.int k (f i)
theorem cellsOf_length (k : IntKind) (f : Nat → Nat) (n : Nat) : (cellsOf k f n).length = n := by simp [cellsOf]
theorem cellsOf_get (k : IntKind) (f : Nat → Nat) (n i : Nat) (h : i < n) : (cellsOf k f n)[i]? = some (.int k (f i)) := by simp [cellsOf, h]
theorem cellsOf_one (k : IntKind) (f : Nat → Nat) (n : Nat) : ∀ u ∈ cellsOf k f n, u.oneCell' = true := by
  intro u hu
  obtain ⟨_, _, rfl⟩ := List.mem_map.1 hu
  rfl
theorem Own.row {k : IntKind} {E : TypeId} {w : World} {base : Nat} {v : Value} {n : Nat} {f : Nat → Nat} (h : Own k E w base v n f) : w.ownsRow base E 1 v n (cellsOf k f n) := by
  refine ⟨by simp [cellsOf], ?_⟩
  rcases h with ⟨rfl, rfl⟩ | ⟨g, cap, rfl, h1, h2, cur, h3, h4, h5, h6⟩
  · exact .inl ⟨rfl, rfl⟩
  · refine .inr ⟨g, cap, cur, rfl, h1, h3, h5, h2, by omega, ?_⟩
    apply List.ext_getElem?
    intro i
    by_cases hi : i < n
    · rw [Nat.mul_one, List.getElem?_take, if_pos hi, cellsOf_get k f n i hi, ← h6 i hi]
      simp
    · rw [List.getElem?_eq_none (by simp; omega), List.getElem?_eq_none (by simp [cellsOf]; omega)]
theorem Own.of_row {k : IntKind} {E : TypeId} {w : World} {base : Nat} {v : Value} {n : Nat} {f : Nat → Nat} {xs : List Value} (h : w.ownsRow base E 1 v n xs) (hx : ∀ i, i < n → xs[i]? = some (.int k (f i))) : Own k E w base v n f := by
  rcases h.2 with ⟨rfl, rfl⟩ | ⟨g, cap, cur, rfl, h1, h2, h3, h4, h5, h6⟩
  · exact .inl ⟨rfl, rfl⟩
  · refine .inr ⟨g, cap, rfl, h1, h4, cur, h2, by omega, h3, fun i hi => ?_⟩
    rw [← hx i hi, ← h6, List.getElem?_take, if_pos (by omega)]
    simp

end Go.Proofs.Ytilcigjhogcjkaa
