/-
  What is proved here: plain facts on dividing digit by digit, each digit found by halving; and appending a list of digits behind a list of digits.
-/
import Derived.Test.YtdiacbfdfoeemaaDoorRMul
import Derived.Test.YtdiacbfdfoeemaaDoorRef5
namespace Go.Proofs.YtdiacbfdfoeemaaDoor
open Go Go.RowKit

/-- What the digits from k on say. -/
def top (f : Nat → Nat) (k n : Nat) : Nat := num 65536 (fun j => f (k + j)) (n - k)

theorem top_end (f : Nat → Nat) (n : Nat) : top f n n = 0 := by simp [top, num]
theorem top_all (f : Nat → Nat) (n : Nat) : top f 0 n = num 65536 f n := by
  unfold top
  exact num_congr (fun i _ => by rw [Nat.zero_add])
theorem num_first (B : Nat) (f : Nat → Nat) (n : Nat) : num B f (n + 1) = f 0 + B * num B (fun i => f (i + 1)) n := by
  rw [Nat.add_comm, num_split B f 1 n]
  simp only [num_succ, num_zero, Nat.pow_zero, Nat.mul_one, Nat.zero_add, Nat.pow_one]
  rw [num_congr (g := fun i => f (i + 1)) (fun i _ => by rw [Nat.add_comm])]
theorem top_step {f : Nat → Nat} {k n : Nat} (h : k < n) : top f k n = f k + 65536 * top f (k + 1) n := by
  unfold top
  rw [show n - k = (n - (k + 1)) + 1 from by omega, num_first]
  rw [num_congr (f := fun i => f (k + (i + 1))) (g := fun j => f (k + 1 + j)) (fun i _ => by rw [show k + (i + 1) = k + 1 + i from by omega])]
  simp
theorem top_upd {f : Nat → Nat} {k n x : Nat} : top (upd f k x) (k + 1) n = top f (k + 1) n := by
  unfold top
  exact num_congr (fun i _ => upd_other (by omega))

/-- Behind the digits from k on: the quotient's digits, and the rest. -/
def RDivRel (f q : Nat → Nat) (n k Y R : Nat) : Prop := top f k n = top q k n * Y + R ∧ R < Y

theorem RDivRel.start {f q : Nat → Nat} {n Y : Nat} (h : 0 < Y) : RDivRel f q n n Y 0 := ⟨by rw [top_end, top_end]; simp, h⟩
theorem RDivRel.step {f q : Nat → Nat} {n k Y R l R2 : Nat} (r : RDivRel f q n (k + 1) Y R) (hk : k < n) (h1 : R2 + Y * l = f k + 65536 * R) (h2 : f k + 65536 * R < Y * (l + 1)) : RDivRel f (upd q k l) n k Y R2 := by
  obtain ⟨a, b⟩ := r
  refine ⟨?_, ?_⟩
  · rw [top_step hk, top_step hk, upd_same, top_upd, a]
    rw [Nat.add_mul, Nat.mul_add, Nat.mul_assoc, Nat.mul_comm l Y]
    omega
  · rw [Nat.mul_add, Nat.mul_one] at h2
    omega
theorem RDivRel.done {f q : Nat → Nat} {n Y R : Nat} (r : RDivRel f q n 0 Y R) : num 65536 q n = num 65536 f n / Y ∧ R = num 65536 f n % Y := by
  obtain ⟨a, b⟩ := r
  rw [top_all, top_all] at a
  rw [a]
  refine ⟨?_, ?_⟩
  · rw [Nat.mul_comm, Nat.mul_add_div (by omega), Nat.div_eq_of_lt b, Nat.add_zero]
  · rw [Nat.mul_comm, Nat.mul_add_mod, Nat.mod_eq_of_lt b]

/-- The halving: the digit lies from lo on, below hi. -/
def HalfRel (Y T lo hi : Nat) : Prop := Y * lo ≤ T ∧ T < Y * hi
theorem HalfRel.start {Y R x : Nat} (h : R < Y) (hx : x < 65536) : HalfRel Y (x + 65536 * R) 0 65536 := by
  refine ⟨by omega, ?_⟩
  have : 65536 * (R + 1) ≤ 65536 * Y := Nat.mul_le_mul_left _ h
  rw [Nat.mul_comm Y]
  omega

/-- One list of digits behind another. -/
def cat (g : Nat → Nat) (m : Nat) (f : Nat → Nat) : Nat → Nat := fun i => if i < m then g i else f (i - m)
theorem cat_first (g f : Nat → Nat) (n : Nat) : num 65536 (cat g 1 f) (1 + n) = g 0 + 65536 * num 65536 f n := by
  rw [Nat.add_comm 1 n, num_first]
  rw [num_congr (f := fun i => cat g 1 f (i + 1)) (g := f) (fun i _ => by simp [cat])]
  simp [cat]
theorem cat_lt {B : Nat} {g f : Nat → Nat} {m n : Nat} (hg : ∀ i, i < m → g i < B) (hf : ∀ i, i < n → f i < B) : ∀ i, i < m + n → cat g m f i < B := by
  intro i hi
  unfold cat
  by_cases h : i < m
  · rw [if_pos h]; exact hg i h
  · rw [if_neg h]; exact hf _ (by omega)

theorem cat_cells {k : IntKind} {g f : Nat → Nat} {m n j : Nat} (hj : j < m + n) : (cellsOf k g m ++ cellsOf k f n)[j]? = some (.int k (cat g m f j)) := by
  unfold cat
  by_cases h : j < m
  · rw [if_pos h, List.getElem?_append_left (by rw [cellsOf_length]; exact h), cellsOf_get _ _ _ _ h]
  · rw [if_neg h, List.getElem?_append_right (by rw [cellsOf_length]; omega), cellsOf_length, cellsOf_get _ _ _ _ (by omega)]

/-- append of all the digits of a list behind a list that the call owns. -/
theorem wpList_catI {w : World} {ops : Array Oper} {rest : List Oper} {o : Oper} {a : Act} {Q : Exit → Act → World → Prop}
    (hgd : o.guard = none) (s x : Operand) (ho : o.op = .call { callee := .builtin .append, args := #[s, x], argTypes := #[88, 88] })
    (base : Nat) (v u : Value) (m n : Nat) (g f : Nat → Nat) (hs : a.eval s = v) (hx : a.eval x = u)
    (hv : Own .i64 3 w base v m g) (hu : Sl .i64 w u n f) (hb : (m + n) * 8 ≤ 140737488355328) (hbase : base ≤ w.heap.size)
    (hK : ∀ v' w', Own .i64 3 w' base v' (m + n) (cat g m f) → Below base w w' → wpList Tryd.prog ops Q rest (a.put o.dst v') w') :
    wpList Tryd.prog ops Q (o :: rest) a w := by
  obtain ⟨i, hi, hz0, hz1, hz2⟩ := info_parts infoI
  obtain ⟨ao, cap, rfl, h1, h2, h0, h3⟩ := hu
  have hcs := cellsOf_length .i64 f n
  have hrow := hv.row
  have key : ∀ v' w', w'.ownsRow base 3 1 v' (m + n) (cellsOf .i64 g m ++ cellsOf .i64 f n) → w.grownBy w' v.ownBlock → wpList Tryd.prog ops Q rest (a.put o.dst v') w' := fun v' w' ho hg =>
    hK v' w' (Own.of_row ho (fun j hj => cat_cells hj)) ((Below.refl base w).grown hg hbase (fun j hj => (hrow.lt j hj).1))
  cases ao with
  | none =>
    obtain rfl := h0 rfl
    obtain rfl : n = 0 := by omega
    refine wpList_append_own_none hgd _ _ 88 ho base 3 i 1 Tryd.underlying88 hi v m _ hs hrow hx ?_
    exact hK v w (Own.of_row hrow (fun j hj => by rw [cellsOf_get _ _ _ _ (show j < m from hj)]; unfold cat; rw [if_pos (show j < m from hj)])) (Below.refl _ _)
  | some ad =>
    by_cases hn : n = 0
    · subst hn
      refine wpList_append_own _ hgd _ _ 88 ho base 3 i (.int .i64 0) 1 8 Tryd.underlying88 hi hz0 hz1 hz2 rfl (by decide) v m _ hs hrow ad 0 _ [] hx rfl (fun j u hj => by simp at hj) (fun u hu => by simp at hu) (by unfold maxLen; omega) (by omega) hbase ?_
      intro v' w1 hown hgrow _
      exact key v' w1 (by simpa [cellsOf] using hown) hgrow
    · obtain ⟨b, off, e, hl, hc⟩ := h3.cells (by omega)
      cases e
      refine wpList_append_own _ hgd _ _ 88 ho base 3 i (.int .i64 0) 1 8 Tryd.underlying88 hi hz0 hz1 hz2 rfl (by decide) v m _ hs hrow ⟨b, off, none⟩ n _ (cellsOf .i64 f n) hx (by rw [hcs]; omega) hc (cellsOf_one _ _ _) (by unfold maxLen; omega) (by omega) hbase ?_
      intro v' w1 hown hgrow _
      exact key v' w1 hown hgrow

end Go.Proofs.YtdiacbfdfoeemaaDoor
