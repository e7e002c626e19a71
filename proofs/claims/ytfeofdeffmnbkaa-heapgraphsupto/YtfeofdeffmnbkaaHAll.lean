/-
  What is proved here: the heap's move of all that the roots reach.
-/
import Derived.Test.YtfeofdeffmnbkaaHFields
import Derived.Test.YtfeofdeffmnbkaaLHFields
namespace Go.Proofs.Ytfeofdeffmnbkaa
open Go Go.RowKit

/-- A heap ahead of the move: the half in use (i) holds anything, the other one the words (f, st). -/
structure PreIn (w : World) (hb : Nat) (X : Nat → Prop) (sz : Nat) (tm : Int) (n : Nat) (f : Nat → Nat) (st : Nat → Bool) (i : Nat) (v u v' u' : Value) (nJ : Nat) (fJ : Nat → Nat) (m : Nat) (s : Nat → Nat) (m' : Nat) (s' : Nat → Nat) : Prop where
  i1 : i ≤ 1
  a : HalfAt 33 74 w hb (heapCells i v u v' u' sz tm) (2 * i) v u nJ fJ m s
  b : HalfAt 33 74 w hb (heapCells i v u v' u' sz tm) (2 * (1 - i)) v' u' n f m' s'
  far : ∀ g, (v.ownBlock = some g ∨ u.ownBlock = some g) → ¬ (v'.ownBlock = some g ∨ u'.ownBlock = some g)
  markF : ∀ p, st p = marks m' s' p
  sbF : ∀ i, i < m' → s' i < 18446744073709551616
  mlF : m' ≤ 16385
  good : Good n f st
  fb : ∀ i, i < n → f i < 18446744073709551616
  nz : n ≤ sz
  z : sz ≤ 1048576
  xs : ∀ k, X k ↔ (foot hb v u k ∨ v'.ownBlock = some k ∨ u'.ownBlock = some k)

theorem PreIn.begin {w w2 : World} {hb : Nat} {X : Nat → Prop} {sz : Nat} {tm : Int} {n : Nat} {f : Nat → Nat} {st : Nat → Bool} {i : Nat} {v u v' u' : Value} {nJ : Nat} {fJ : Nat → Nat} {m : Nat} {s : Nat → Nat} {m' : Nat} {s' : Nat → Nat} (h : PreIn w hb X sz tm n f st i v u v' u' nJ fJ m s m' s')
    {v2 u2 : Value} (ha : HalfAt 33 74 w2 hb (heapCells i v2 u2 v' u' sz tm) (2 * i) v2 u2 1 (fun _ => 0) 0 s) (hu : Stays w.heap.size u u2) (hv : Stays w.heap.size v v2) (hf : Fr (foot hb v u) w w2) :
    ∃ X2, Mov w2 hb X2 sz tm n f st MS.zero i ∧ Grows w.heap.size X X2 ∧ Fr X w w2 := by
  have key : ∀ k, (v2.ownBlock = some k ∨ u2.ownBlock = some k) → (v.ownBlock = some k ∨ u.ownBlock = some k) ∨ w.heap.size ≤ k := fun k e => by
    rcases e with e | e
    · rcases hv k e with e | e
      · exact .inl (.inl e)
      · exact .inr e
    · rcases hu k e with e | e
      · exact .inl (.inr e)
      · exact .inr e
  have hnot : ∀ k, (v'.ownBlock = some k ∨ u'.ownBlock = some k) → ¬ foot hb v u k := fun k e e2 => by
    rcases e2 with e2 | e2
    · subst e2
      rcases e with e | e
      · exact h.b.nv e
      · exact h.b.nu e
    · exact h.far k e2 e
  have hb2 : HalfAt 33 74 w2 hb (heapCells i v2 u2 v' u' sz tm) (2 * (1 - i)) v' u' n f m' s' :=
    ⟨ha.blk, (heapCells_other h.i1 _ _ _ _ _ _).1, (heapCells_other h.i1 _ _ _ _ _ _).2, h.b.ov.fr hf fun k hk => hnot k (.inl hk), h.b.ou.fr hf fun k hk => hnot k (.inr hk), h.b.nv, h.b.nu, h.b.nn⟩
  refine ⟨fun k => foot hb v2 u2 k ∨ v'.ownBlock = some k ∨ u'.ownBlock = some k, ⟨v2, u2, v', u', 0, s, m', s', h.i1, ha, hb2.congr (fun k _ => (fwd_not rfl).symm), fun k e e2 => ?_, fun p => by simp [marks, MS.zero], fun i hi => by omega, by decide, h.markF, h.sbF, h.mlF, h.good, h.fb, MSok.zero _ _ _, h.nz, h.z, fun _ => Iff.rfl⟩, fun k hk => ?_, hf.mono fun k _ e => (h.xs k).2 (.inl e)⟩
  · rcases key k e with e | e
    · exact h.far k e e2
    · rcases e2 with e2 | e2
      · have := h.b.ov.block_lt e2; omega
      · have := h.b.ou.block_lt e2; omega
  · rcases hk with (e | e) | e
    · exact .inl ((h.xs k).2 (.inl (.inl e)))
    · rcases key k e with e | e
      · exact .inl ((h.xs k).2 (.inl (.inr e)))
      · exact .inr e
    · exact .inl ((h.xs k).2 (.inr e))

theorem Mov.base {w : World} {hb : Nat} {X : Nat → Prop} {sz : Nat} {tm : Int} {n : Nat} {f : Nat → Nat} {st : Nat → Bool} {S : MS} {i : Nat} (h : Mov w hb X sz tm n f st S i) : Good n f st ∧ (∀ i, i < n → f i < 18446744073709551616) ∧ n ≤ 1048576 ∧ MSok n f st S ∧ i ≤ 1 := by
  obtain ⟨v, u, v', u', m, s, m', s', h⟩ := h
  exact ⟨h.good, h.fb, Nat.le_trans h.nz h.z, h.ok, h.i1⟩

/-- Behind a move the heap is one. -/
theorem Mov.heap {w : World} {hb : Nat} {X : Nat → Prop} {sz : Nat} {tm : Int} {n : Nat} {f : Nat → Nat} {st : Nat → Bool} {S : MS} {i : Nat} (h : Mov w hb X sz tm n f st S i) : HeapAt w hb X sz tm S.n S.f S.st := by
  obtain ⟨v, u, v', u', m, s, m', s', h⟩ := h
  exact ⟨i, v, u, v', u', m, s, n, _, m', s', h.i1, h.a, h.b, h.far, h.markT, h.sbT, h.mlT, h.ok.good, h.ok.fb, Nat.le_trans (h.ok.le h.good) h.nz, h.z, h.xs⟩

theorem MSok.roots {n : Nat} {f : Nat → Nat} {st : Nat → Bool} (hg : Good n f st) (hfb : ∀ i, i < n → f i < 18446744073709551616) (r : Nat → Nat) : ∀ k, MSok n f st (rootsS f st r k MS.zero)
  | 0 => MSok.zero _ _ _
  | k + 1 => (MSok.roots hg hfb r k).mv hg hfb _

/-- One step of going through the copies. -/
theorem scan_step {n : Nat} {f : Nat → Nat} {st : Nat → Bool} {S : MS} {d place : Nat} (h : MSok n f st S) (hg : Good n f st) (hfb : ∀ i, i < n → f i < 18446744073709551616) (hn : n ≤ 1048576) (hd : n + 1 ≤ d + place) (hlt : place < S.n) (hst : S.st place = true) :
    ∃ d', n + 1 ≤ d' + (place + hLen (S.f place)) ∧ scanS f st d place S = scanS f st d' (place + hLen (S.f place)) (fieldsS f st (place + 1) (hTag (S.f place)) S) ∧
      (∀ k, k < hTag (S.f place) → S.st (place + 1 + k) = false) ∧ place + 1 + hTag (S.f place) ≤ S.n ∧
      (place + hLen (S.f place) = (fieldsS f st (place + 1) (hTag (S.f place)) S).n ∨ (fieldsS f st (place + 1) (hTag (S.f place)) S).st (place + hLen (S.f place)) = true) ∧ place + hLen (S.f place) ≤ (fieldsS f st (place + 1) (hTag (S.f place)) S).n := by
  have hle := h.le hg
  have hin := (h.good.inn place hst).2
  have hL : hLen (S.f place) = 1 + hTag (S.f place) + hRaw (S.f place) := rfl
  have hfs : ∀ k, k < hTag (S.f place) → S.st (place + 1 + k) = false := fun k hk => h.good.field (i := k) hst (by omega)
  have hok := h.fields hg hfb hn (first := place + 1) (count := hTag (S.f place)) (by omega) hfs _ (Nat.le_refl _)
  obtain ⟨i1, i2, i3⟩ := fieldsS_keeps f st (place + 1) S (hTag (S.f place))
  have hst2 : (fieldsS f st (place + 1) (hTag (S.f place)) S).st place = true := by rw [i2 _ hlt]; exact hst
  have hf2 : (fieldsS f st (place + 1) (hTag (S.f place)) S).f place = S.f place := i3 place hlt (by omega)
  have hnx := hok.next place hst2
  rw [hf2] at hnx
  have hin2 := (hok.good.inn place hst2).2
  rw [hf2] at hin2
  obtain ⟨d', rfl⟩ : ∃ d', d = d' + 1 := ⟨d - 1, by omega⟩
  refine ⟨d', by omega, ?_, hfs, by omega, hnx, hin2⟩
  show (if place < S.n then _ else _) = _
  rw [if_pos hlt]
theorem scan_done {f : Nat → Nat} {st : Nat → Bool} {S : MS} {d place : Nat} (h : S.n ≤ place) : scanS f st d place S = S := by
  cases d with
  | zero => rfl
  | succ d => show (if place < S.n then _ else _) = _; rw [if_neg (by omega)]

end Go.Proofs.Ytfeofdeffmnbkaa
