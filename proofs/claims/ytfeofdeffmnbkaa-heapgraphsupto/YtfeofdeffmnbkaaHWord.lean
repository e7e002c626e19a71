/-
  What is proved here: the heap's move of one word to the other half.
-/
import Derived.Test.YtfeofdeffmnbkaaHHeap6
import Derived.Test.YtfeofdeffmnbkaaHMove
namespace Go.Proofs.Ytfeofdeffmnbkaa
open Go Go.RowKit

/-- A heap on the move: the half in use (i) holds what was moved (S), the other one what is left behind (f, st: as they were at first). -/
structure MovIn (w : World) (hb : Nat) (X : Nat → Prop) (sz : Nat) (tm : Int) (n : Nat) (f : Nat → Nat) (st : Nat → Bool) (S : MS) (i : Nat) (v u v' u' : Value) (m : Nat) (s : Nat → Nat) (m' : Nat) (s' : Nat → Nat) : Prop where
  i1 : i ≤ 1
  a : HalfAt 33 74 w hb (heapCells i v u v' u' sz tm) (2 * i) v u S.n S.f m s
  b : HalfAt 33 74 w hb (heapCells i v u v' u' sz tm) (2 * (1 - i)) v' u' n (fwd f st S.fw) m' s'
  far : ∀ g, (v.ownBlock = some g ∨ u.ownBlock = some g) → ¬ (v'.ownBlock = some g ∨ u'.ownBlock = some g)
  markT : ∀ p, S.st p = marks m s p
  sbT : ∀ i, i < m → s i < 18446744073709551616
  mlT : m ≤ 16385
  markF : ∀ p, st p = marks m' s' p
  sbF : ∀ i, i < m' → s' i < 18446744073709551616
  mlF : m' ≤ 16385
  good : Good n f st
  fb : ∀ i, i < n → f i < 18446744073709551616
  ok : MSok n f st S
  nz : n ≤ sz
  z : sz ≤ 1048576
  xs : ∀ k, X k ↔ (foot hb v u k ∨ v'.ownBlock = some k ∨ u'.ownBlock = some k)

def Mov (w : World) (hb : Nat) (X : Nat → Prop) (sz : Nat) (tm : Int) (n : Nat) (f : Nat → Nat) (st : Nat → Bool) (S : MS) (i : Nat) : Prop :=
  ∃ v u v' u' m s m' s', MovIn w hb X sz tm n f st S i v u v' u' m s m' s'

theorem MovIn.fr {T : Nat → Prop} {w w2 : World} {hb : Nat} {X : Nat → Prop} {sz : Nat} {tm : Int} {n : Nat} {f : Nat → Nat} {st : Nat → Bool} {S : MS} {i : Nat} {v u v' u' : Value} {m : Nat} {s : Nat → Nat} {m' : Nat} {s' : Nat → Nat} (h : MovIn w hb X sz tm n f st S i v u v' u' m s m' s') (hf : Fr T w w2) (hs : ∀ k, X k → ¬ T k) : MovIn w2 hb X sz tm n f st S i v u v' u' m s m' s' :=
  ⟨h.i1, h.a.fr hf fun k hk => hs k ((h.xs k).2 (.inl hk)), h.b.fr hf fun k hk => hs k ((h.xs k).2 (by
    rcases hk with e | e
    · exact .inl (.inl e)
    · exact .inr e)), h.far, h.markT, h.sbT, h.mlT, h.markF, h.sbF, h.mlF, h.good, h.fb, h.ok, h.nz, h.z, h.xs⟩
theorem Mov.fr {T : Nat → Prop} {w w2 : World} {hb : Nat} {X : Nat → Prop} {sz : Nat} {tm : Int} {n : Nat} {f : Nat → Nat} {st : Nat → Bool} {S : MS} {i : Nat} (h : Mov w hb X sz tm n f st S i) (hf : Fr T w w2) (hs : ∀ k, X k → ¬ T k) : Mov w2 hb X sz tm n f st S i := by
  obtain ⟨v, u, v', u', m, s, m', s', h⟩ := h
  exact ⟨v, u, v', u', m, s, m', s', h.fr hf hs⟩
theorem Mov.lt {w : World} {hb : Nat} {X : Nat → Prop} {sz : Nat} {tm : Int} {n : Nat} {f : Nat → Nat} {st : Nat → Bool} {S : MS} {i : Nat} (h : Mov w hb X sz tm n f st S i) {k : Nat} (hk : X k) : k < w.heap.size := by
  obtain ⟨v, u, v', u', m, s, m', s', h⟩ := h
  rcases (h.xs k).1 hk with (e | e | e) | e | e
  · rw [e]; exact h.a.lt
  · exact h.a.ov.block_lt e
  · exact h.a.ou.block_lt e
  · exact h.b.ov.block_lt e
  · exact h.b.ou.block_lt e
theorem MovIn.ptr {w : World} {hb : Nat} {X : Nat → Prop} {sz : Nat} {tm : Int} {n : Nat} {f : Nat → Nat} {st : Nat → Bool} {S : MS} {i : Nat} {v u v' u' : Value} {m : Nat} {s : Nat → Nat} {m' : Nat} {s' : Nat → Nat} (h : MovIn w hb X sz tm n f st S i v u v' u' m s m' s') (x : Nat) : isPtr (marks m' s') x = isPtr st x := by
  unfold isPtr
  rw [h.markF]

theorem fwd_went {f : Nat → Nat} {st : Nat → Bool} {fw : Nat → Nat} {p : Nat} (h : st p = true) (h0 : fw p ≠ 0) : fwd f st fw p = 4 * fw p := by unfold fwd; rw [if_pos ⟨h, h0⟩]
theorem fwd_not {f : Nat → Nat} {st : Nat → Bool} {fw : Nat → Nat} {p : Nat} (h0 : fw p = 0) : fwd f st fw p = f p := by unfold fwd; rw [if_neg (fun e => e.2 h0)]
theorem fwd_field {f : Nat → Nat} {st : Nat → Bool} {fw : Nat → Nat} {p : Nat} (h0 : st p = false) : fwd f st fw p = f p := by unfold fwd; rw [if_neg (fun e => by rw [h0] at e; cases e.1)]

/-- The two cells of a move. -/
theorem mcells (w : World) (p q : Value) (E : TypeId) : (w.alloc (.cells #[p, q] E)).cell? ⟨w.heap.size, 0, none⟩ = some p ∧ (w.alloc (.cells #[p, q] E)).cell? ⟨w.heap.size, 1, none⟩ = some q := by
  constructor
  · rw [cell_of_row _ _ _ _ _ _ (heap_alloc_new w _)]; rfl
  · rw [cell_of_row _ _ _ _ _ _ (heap_alloc_new w _)]; rfl

set_option maxHeartbeats 2000000 in
theorem word_no (w : World) (hb : Nat) (X : Nat → Prop) (sz : Nat) (tm : Int) (n : Nat) (f : Nat → Nat) (st : Nat → Bool) (S : MS) (i x : Nat) (h : Mov w hb X sz tm n f st S i) (hx : x < 18446744073709551616) (hp : isPtr st x = false) :
    Calls Try.prog 66 #[.agg #[.pointer (some ⟨hb, 2 * (1 - i), none⟩), .pointer (some ⟨hb, 2 * i, none⟩)], .int .u64 (x : Int)] w fun e w' => e = .returned (.int .u64 (x : Int)) ∧ Fr (fun _ => False) w w' := by
  obtain ⟨v, u, v', u', m, s, m', s', h⟩ := h
  have hp' := h.ptr x
  rw [hp] at hp'
  have K := hplace_no 74 _ hb _ _ v' u' n _ m' s' x (h.b.alloc (.cells #[.pointer (some ⟨hb, 2 * (1 - i), none⟩), .pointer (some ⟨hb, 2 * i, none⟩)] 76)) (by have := h.mlF; omega) h.sbF hx hp'
  go_enter Try.func66, Try.ntmps66
  go_wp2_with (go_at_call 58; refine K.mono ?_; rintro e w' ⟨rfl, rfl⟩)
  go_ret
  exact ⟨rfl, (Fr.refl _ _).alloc _⟩

set_option maxHeartbeats 2000000 in
theorem word_same (w : World) (hb : Nat) (X : Nat → Prop) (sz : Nat) (tm : Int) (n : Nat) (f : Nat → Nat) (st : Nat → Bool) (S : MS) (i x : Nat) (h : Mov w hb X sz tm n f st S i) (hx : x < 18446744073709551616) (hp : isPtr st x = true) (h0 : S.fw (x / 4) ≠ 0) :
    Calls Try.prog 66 #[.agg #[.pointer (some ⟨hb, 2 * (1 - i), none⟩), .pointer (some ⟨hb, 2 * i, none⟩)], .int .u64 (x : Int)] w fun e w' => e = .returned (.int .u64 ((4 * S.fw (x / 4) : Nat) : Int)) ∧ Fr (fun _ => False) w w' := by
  obtain ⟨v, u, v', u', m, s, m', s', h⟩ := h
  have hp' := h.ptr x
  rw [hp] at hp'
  have hst := (isPtr_st hp).1
  have hlt := h.good.lt hst
  have hA := h.b.alloc (.cells #[.pointer (some ⟨hb, 2 * (1 - i), none⟩), .pointer (some ⟨hb, 2 * i, none⟩)] 76)
  have K := hplace_yes 74 _ hb _ _ v' u' n _ m' s' x hA (by have := h.mlF; omega) h.sbF hx hp'
  have hcv := hA.cellv
  obtain ⟨g, cap, rfl, hc1, hc2, hcl⟩ := hA.ov.rd hlt
  rw [fwd_went hst h0] at hcl
  have hwl := (h.ok.went _ h0).2.1
  have hle := h.ok.le h.good
  have hz := h.z
  have hnz := h.nz
  have hB := and_2 (4 * S.fw (x / 4)) (by omega)
  rw [show 4 * S.fw (x / 4) % 4 = 0 by omega] at hB
  obtain ⟨y, hy⟩ : ∃ y : Nat, y = 4 * S.fw (x / 4) := ⟨_, rfl⟩
  rw [← hy] at hB hcl ⊢
  have hB0 : bits BinOp.and IntKind.u64 (y : Int) 3 = 0 := hB
  obtain ⟨p, hpp⟩ : ∃ p : Nat, p = x / 4 := ⟨_, rfl⟩
  rw [← hpp] at K hcl
  have hpn : p < n := by omega
  clear hB hy h hA hp' hst hwl hle hpp hlt h0
  go_enter Try.func66, Try.ntmps66
  go_wp2_with (go_at_call 58; refine K.mono ?_; rintro e w' ⟨rfl, hw⟩; replace hw := hw.symm; subst hw)
  go_ret
  exact ⟨rfl, (Fr.refl _ _).alloc _⟩

end Go.Proofs.Ytfeofdeffmnbkaa
