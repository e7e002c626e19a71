/-
  What is proved here: a heap in memory, and its calls that only read.
-/
import Derived.Test.YtchdfenickjiiaaHLay2
namespace Go.Proofs.Ytchdfenickjiiaa
open Go Go.RowKit

/-- A heap at the block hb: its words (n of them, f), the places of its objects (st), its size, how often it was collected; X: the blocks that are its own. -/
structure HeapIn (w : World) (hb : Nat) (X : Nat → Prop) (sz : Nat) (tm : Int) (n : Nat) (f : Nat → Nat) (st : Nat → Bool) (i : Nat) (v u v' u' : Value) (m : Nat) (s : Nat → Nat) (n' : Nat) (f' : Nat → Nat) (m' : Nat) (s' : Nat → Nat) : Prop where
  i1 : i ≤ 1
  a : HalfAt 22 134 w hb (heapCells i v u v' u' sz tm) (2 * i) v u n f m s
  b : HalfAt 22 134 w hb (heapCells i v u v' u' sz tm) (2 * (1 - i)) v' u' n' f' m' s'
  far : ∀ g, (v.ownBlock = some g ∨ u.ownBlock = some g) → ¬ (v'.ownBlock = some g ∨ u'.ownBlock = some g)
  marked : ∀ p, st p = marks m s p
  sb : ∀ i, i < m → s i < 18446744073709551616
  ml : m ≤ 16385
  good : Good n f st
  fb : ∀ i, i < n → f i < 18446744073709551616
  nz : n ≤ sz
  z : sz ≤ 1048576
  xs : ∀ k, X k ↔ (foot hb v u k ∨ v'.ownBlock = some k ∨ u'.ownBlock = some k)

def HeapAt (w : World) (hb : Nat) (X : Nat → Prop) (sz : Nat) (tm : Int) (n : Nat) (f : Nat → Nat) (st : Nat → Bool) : Prop :=
  ∃ i v u v' u' m s n' f' m' s', HeapIn w hb X sz tm n f st i v u v' u' m s n' f' m' s'

theorem HeapIn.lt {w : World} {hb : Nat} {X : Nat → Prop} {sz : Nat} {tm : Int} {n : Nat} {f : Nat → Nat} {st : Nat → Bool} {i : Nat} {v u v' u' : Value} {m : Nat} {s : Nat → Nat} {n' : Nat} {f' : Nat → Nat} {m' : Nat} {s' : Nat → Nat} (h : HeapIn w hb X sz tm n f st i v u v' u' m s n' f' m' s') {k : Nat} (hk : X k) : k < w.heap.size := by
  rcases (h.xs k).1 hk with (e | e | e) | e | e
  · rw [e]; exact h.a.lt
  · exact h.a.ov.block_lt e
  · exact h.a.ou.block_lt e
  · exact h.b.ov.block_lt e
  · exact h.b.ou.block_lt e
theorem HeapAt.lt {w : World} {hb : Nat} {X : Nat → Prop} {sz : Nat} {tm : Int} {n : Nat} {f : Nat → Nat} {st : Nat → Bool} (h : HeapAt w hb X sz tm n f st) {k : Nat} (hk : X k) : k < w.heap.size := by
  obtain ⟨i, v, u, v', u', m, s, n', f', m', s', h⟩ := h
  exact h.lt hk
theorem HeapAt.own {w : World} {hb : Nat} {X : Nat → Prop} {sz : Nat} {tm : Int} {n : Nat} {f : Nat → Nat} {st : Nat → Bool} (h : HeapAt w hb X sz tm n f st) : X hb := by
  obtain ⟨i, v, u, v', u', m, s, n', f', m', s', h⟩ := h
  exact (h.xs hb).2 (.inl (.inl rfl))
theorem HeapIn.fr {S : Nat → Prop} {w w2 : World} {hb : Nat} {X : Nat → Prop} {sz : Nat} {tm : Int} {n : Nat} {f : Nat → Nat} {st : Nat → Bool} {i : Nat} {v u v' u' : Value} {m : Nat} {s : Nat → Nat} {n' : Nat} {f' : Nat → Nat} {m' : Nat} {s' : Nat → Nat} (h : HeapIn w hb X sz tm n f st i v u v' u' m s n' f' m' s') (hf : Fr S w w2) (hs : ∀ k, X k → ¬ S k) : HeapIn w2 hb X sz tm n f st i v u v' u' m s n' f' m' s' :=
  ⟨h.i1, h.a.fr hf fun k hk => hs k ((h.xs k).2 (.inl hk)), h.b.fr hf fun k hk => hs k ((h.xs k).2 (by
    rcases hk with e | e
    · exact .inl (.inl e)
    · exact .inr e)), h.far, h.marked, h.sb, h.ml, h.good, h.fb, h.nz, h.z, h.xs⟩
theorem HeapAt.fr {S : Nat → Prop} {w w2 : World} {hb : Nat} {X : Nat → Prop} {sz : Nat} {tm : Int} {n : Nat} {f : Nat → Nat} {st : Nat → Bool} (h : HeapAt w hb X sz tm n f st) (hf : Fr S w w2) (hs : ∀ k, X k → ¬ S k) : HeapAt w2 hb X sz tm n f st := by
  obtain ⟨i, v, u, v', u', m, s, n', f', m', s', h⟩ := h
  exact ⟨i, v, u, v', u', m, s, n', f', m', s', h.fr hf hs⟩
theorem HeapAt.drewN {w : World} {hb : Nat} {X : Nat → Prop} {sz : Nat} {tm : Int} {n : Nat} {f : Nat → Nat} {st : Nat → Bool} (h : HeapAt w hb X sz tm n f st) (q : Nat) : HeapAt (w.drewN q) hb X sz tm n f st :=
  h.fr (S := fun _ => False) ((Fr.refl _ _).drewN q) (fun _ _ e => e)
theorem HeapAt.alloc {w : World} {hb : Nat} {X : Nat → Prop} {sz : Nat} {tm : Int} {n : Nat} {f : Nat → Nat} {st : Nat → Bool} (h : HeapAt w hb X sz tm n f st) (o : Obj) : HeapAt (w.alloc o) hb X sz tm n f st :=
  h.fr (S := fun _ => False) ((Fr.refl _ _).alloc o) (fun _ _ e => e)
theorem HeapAt.good {w : World} {hb : Nat} {X : Nat → Prop} {sz : Nat} {tm : Int} {n : Nat} {f : Nat → Nat} {st : Nat → Bool} (h : HeapAt w hb X sz tm n f st) : Good n f st ∧ (∀ i, i < n → f i < 18446744073709551616) ∧ n ≤ sz ∧ sz ≤ 1048576 := by
  obtain ⟨i, v, u, v', u', m, s, n', f', m', s', h⟩ := h
  exact ⟨h.good, h.fb, h.nz, h.z⟩
theorem HeapIn.ptr {w : World} {hb : Nat} {X : Nat → Prop} {sz : Nat} {tm : Int} {n : Nat} {f : Nat → Nat} {st : Nat → Bool} {i : Nat} {v u v' u' : Value} {m : Nat} {s : Nat → Nat} {n' : Nat} {f' : Nat → Nat} {m' : Nat} {s' : Nat → Nat} (h : HeapIn w hb X sz tm n f st i v u v' u' m s n' f' m' s') (x : Nat) : isPtr (marks m s) x = isPtr st x := by
  unfold isPtr
  rw [h.marked]

set_option maxRecDepth 20000 in
theorem used_any (w : World) (hb : Nat) (X : Nat → Prop) (sz : Nat) (tm : Int) (n : Nat) (f : Nat → Nat) (st : Nat → Bool) (h : HeapAt w hb X sz tm n f st) :
    Calls Try.prog 20 #[.pointer (some ⟨hb, 0, none⟩)] w fun e w' => e = .returned (.int .i64 (n : Int)) ∧ ∃ q, w' = w.drewN q := by
  obtain ⟨i, v, u, v', u', m, s, n', f', m', s', h⟩ := h
  have hcv := h.a.cellv
  obtain ⟨ao, cap, rfl⟩ := h.a.ov.shape
  have K := now_any w hb i _ u v' u' sz tm h.i1 h.a.blk
  go_enter Try.func20, Try.ntmps20
  go_wp2_with (go_at_call 60; refine K.mono ?_; rintro e w' ⟨rfl, q, rfl⟩)
  go_ret
  exact ⟨rfl, _, rfl⟩

set_option maxRecDepth 20000 in
theorem size_any (w : World) (hb : Nat) (X : Nat → Prop) (sz : Nat) (tm : Int) (n : Nat) (f : Nat → Nat) (st : Nat → Bool) (h : HeapAt w hb X sz tm n f st) :
    Calls Try.prog 85 #[.pointer (some ⟨hb, 0, none⟩)] w fun e w' => e = .returned (.int .i64 (sz : Int)) ∧ w' = w := by
  obtain ⟨i, v, u, v', u', m, s, n', f', m', s', h⟩ := h
  have hc : w.cell? ⟨hb, 5, none⟩ = some (.int .i64 (sz : Int)) := by
    rw [cell_of_row w hb 5 _ _ _ h.a.blk]
    rcases Nat.le_one_iff_eq_zero_or_eq_one.1 h.i1 with e | e <;> rw [e] <;> rfl
  go_enter Try.func85, Try.ntmps85
  go_wp2
  go_ret
  exact ⟨rfl, rfl⟩
set_option maxRecDepth 20000 in
theorem times_any (w : World) (hb : Nat) (X : Nat → Prop) (sz : Nat) (tm : Int) (n : Nat) (f : Nat → Nat) (st : Nat → Bool) (h : HeapAt w hb X sz tm n f st) :
    Calls Try.prog 45 #[.pointer (some ⟨hb, 0, none⟩)] w fun e w' => e = .returned (.int .i64 tm) ∧ w' = w := by
  obtain ⟨i, v, u, v', u', m, s, n', f', m', s', h⟩ := h
  have hc : w.cell? ⟨hb, 6, none⟩ = some (.int .i64 tm) := by
    rw [cell_of_row w hb 6 _ _ _ h.a.blk]
    rcases Nat.le_one_iff_eq_zero_or_eq_one.1 h.i1 with e | e <;> rw [e] <;> rfl
  go_enter Try.func45, Try.ntmps45
  go_wp2
  go_ret
  exact ⟨rfl, rfl⟩

set_option maxRecDepth 20000 in
theorem is_any (w : World) (hb : Nat) (X : Nat → Prop) (sz : Nat) (tm : Int) (n : Nat) (f : Nat → Nat) (st : Nat → Bool) (x : Nat) (h : HeapAt w hb X sz tm n f st) (hx : x < 18446744073709551616) :
    Calls Try.prog 108 #[.pointer (some ⟨hb, 0, none⟩), .int .u64 (x : Int)] w fun e w' => e = .returned (.bool (isPtr st x)) ∧ ∃ q, w' = w.drewN q := by
  obtain ⟨i, v, u, v', u', m, s, n', f', m', s', h⟩ := h
  have K := now_any w hb i v u v' u' sz tm h.i1 h.a.blk
  have hp := h.ptr x
  cases hc : isPtr st x with
  | true =>
    rw [hc] at hp
    go_enter Try.func108, Try.ntmps108
    go_wp2_with (first | (go_at_call 60; refine K.mono ?_; rintro e w' ⟨rfl, q, rfl⟩) | (go_at_call 110; refine (hplace_yes 134 _ _ _ _ v u n f m s _ (h.a.drewN _) (by have := h.ml; omega) h.sb hx hp).mono ?_; rintro e w' ⟨rfl, rfl⟩))
    go_ret
    exact ⟨rfl, _, rfl⟩
  | false =>
    rw [hc] at hp
    go_enter Try.func108, Try.ntmps108
    go_wp2_with (first | (go_at_call 60; refine K.mono ?_; rintro e w' ⟨rfl, q, rfl⟩) | (go_at_call 110; refine (hplace_no 134 _ _ _ _ v u n f m s _ (h.a.drewN _) (by have := h.ml; omega) h.sb hx hp).mono ?_; rintro e w' ⟨rfl, rfl⟩))
    go_ret
    exact ⟨rfl, _, rfl⟩

/-- The header of a word's object; 0: there is none. -/
def headOf (f : Nat → Nat) (st : Nat → Bool) (x : Nat) : Nat := if isPtr st x = true then f (x / 4) else 0
theorem headOf_yes {f : Nat → Nat} {st : Nat → Bool} {x : Nat} (h : isPtr st x = true) : headOf f st x = f (x / 4) := by simp [headOf, h]
theorem headOf_no {f : Nat → Nat} {st : Nat → Bool} {x : Nat} (h : isPtr st x = false) : headOf f st x = 0 := by simp [headOf, h]
theorem isPtr_st {st : Nat → Bool} {x : Nat} (h : isPtr st x = true) : st (x / 4) = true ∧ x % 4 = 0 := by
  simp [isPtr] at h
  exact ⟨h.2, h.1⟩

end Go.Proofs.Ytchdfenickjiiaa
