/-
  What is proved here: plain facts on moving objects from one row of words to another; no walk. the heap's move of one word to the other half. the heap's move of one word whose object is not copied yet. the heap's move of any word, and of the tagged fields of an object that was copied. HeapFields answers true for every two numbers and every two lists, and turns nothing that was there. the heap's move of all that the roots reach. the heap's move of all that the roots reach: the walk. the heap's Collect: what can be reached is copied into the other half, which is in use then.
-/
import Derived.Test.YtchdfenickjiiaaHHeap3
import Derived.Test.YtchdfenickjiiaaHHeap6
import Derived.Deep.RegionWith
import Derived.Test.YtchdfenickjiiaaHBase
namespace Go.Proofs.Ytchdfenickjiiaa
open Go Go.RowKit

/-- The words of the objects before k that b names. -/
def sumL (f : Nat → Nat) (b : Nat → Bool) : Nat → Nat
  | 0 => 0
  | k + 1 => sumL f b k + if b k = true then hLen (f k) else 0

theorem sumL_le {n : Nat} {f : Nat → Nat} {st : Nat → Bool} (h : Good n f st) {b : Nat → Bool} (hb : ∀ p, b p = true → st p = true) : ∀ (k e : Nat), 1 ≤ e → (∀ p, p < k → b p = true → p + hLen (f p) ≤ e) → sumL f b k + 1 ≤ e
  | 0, e, h1, _ => by simpa [sumL] using h1
  | k + 1, e, h1, he => by
    unfold sumL
    by_cases c : b k = true
    · rw [if_pos c]
      have i1 := sumL_le h hb k k (h.inn k (hb k c)).1 fun p hp hbp => h.apart p k (hb p hbp) (hb k c) hp
      have := he k (by omega) c
      omega
    · rw [if_neg c]
      exact sumL_le h hb k e h1 fun p hp hbp => he p (by omega) hbp

theorem sumL_congr {f : Nat → Nat} {b c : Nat → Bool} : ∀ {k : Nat}, (∀ p, p < k → b p = c p) → sumL f b k = sumL f c k
  | 0, _ => rfl
  | k + 1, h => by
    unfold sumL
    rw [h k (by omega), sumL_congr (fun p hp => h p (by omega))]

theorem sumL_more {f : Nat → Nat} {b c : Nat → Bool} {p : Nat} (hb : b p = false) (hc : c p = true) (hs : ∀ q, q ≠ p → c q = b q) : ∀ {k : Nat}, p < k → sumL f c k = sumL f b k + hLen (f p)
  | 0, h => by omega
  | k + 1, h => by
    unfold sumL
    by_cases e : p = k
    · subst e
      rw [hb, hc, sumL_congr (fun q hq => hs q (by omega))]
      simp
    · rw [sumL_more hb hc hs (k := k) (by omega), hs k (fun x => e x.symm)]
      omega

/-- What is moved: where each object went (0: it did not), and the words and places on the other side. -/
structure MS where
  fw : Nat → Nat
  n : Nat
  f : Nat → Nat
  st : Nat → Bool

def MS.zero : MS := ⟨fun _ => 0, 1, fun _ => 0, fun _ => false⟩

/-- The object at p is copied. -/
def MS.copy (f : Nat → Nat) (p : Nat) (S : MS) : MS := ⟨upd S.fw p S.n, S.n + hLen (f p), fun i => if i < S.n then S.f i else f (p + (i - S.n)), also S.st S.n⟩

/-- A word is moved: what lies there then; and what it has become. -/
def mvS (f : Nat → Nat) (st : Nat → Bool) (x : Nat) (S : MS) : MS := if isPtr st x = true ∧ S.fw (x / 4) = 0 then S.copy f (x / 4) else S

def mvV (f : Nat → Nat) (st : Nat → Bool) (x : Nat) (S : MS) : Nat := if isPtr st x = true then 4 * (mvS f st x S).fw (x / 4) else x

/-- The words that are left behind: where an object went stands in its header's place. -/
def fwd (f : Nat → Nat) (st : Nat → Bool) (fw : Nat → Nat) (i : Nat) : Nat := if st i = true ∧ fw i ≠ 0 then 4 * fw i else f i

structure MSok (n : Nat) (f : Nat → Nat) (st : Nat → Bool) (S : MS) : Prop where
  sum : S.n = 1 + sumL f (fun p => S.fw p != 0) n
  went : ∀ p, S.fw p ≠ 0 → st p = true ∧ S.fw p < S.n ∧ S.st (S.fw p) = true ∧ S.f (S.fw p) = f p
  good : Good S.n S.f S.st
  fb : ∀ i, i < S.n → S.f i < 18446744073709551616
  next : ∀ p, S.st p = true → p + hLen (S.f p) = S.n ∨ S.st (p + hLen (S.f p)) = true
  first : S.n = 1 ∨ S.st 1 = true

theorem MSok.zero (n : Nat) (f : Nat → Nat) (st : Nat → Bool) : MSok n f st MS.zero := by
  refine ⟨?_, fun p h => absurd rfl h, Good.one, (fun i _ => by show (0 : Nat) < _; decide), (fun p h => by cases h), .inl rfl⟩
  have : ∀ k, sumL f (fun p => MS.zero.fw p != 0) k = 0 := fun k => by
    induction k with
    | zero => rfl
    | succ k ih => unfold sumL; rw [ih]; simp [MS.zero]
  rw [this]
  rfl

theorem MSok.le {n : Nat} {f : Nat → Nat} {st : Nat → Bool} {S : MS} (h : MSok n f st S) (hg : Good n f st) : S.n ≤ n := by
  have := sumL_le hg (b := fun p => S.fw p != 0) (fun p hp => (h.went p (by simpa using hp)).1) n n hg.pos (fun p hp hb => (hg.inn p (h.went p (by simpa using hb)).1).2)
  have := h.sum
  omega

theorem mvS_copy {f : Nat → Nat} {st : Nat → Bool} {x : Nat} {S : MS} (h : isPtr st x = true) (h0 : S.fw (x / 4) = 0) : mvS f st x S = S.copy f (x / 4) := by unfold mvS; rw [if_pos ⟨h, h0⟩]

theorem mvS_same {f : Nat → Nat} {st : Nat → Bool} {x : Nat} {S : MS} (h : S.fw (x / 4) ≠ 0) : mvS f st x S = S := by unfold mvS; rw [if_neg (fun e => h e.2)]

theorem mvS_no {f : Nat → Nat} {st : Nat → Bool} {x : Nat} {S : MS} (h : isPtr st x = false) : mvS f st x S = S := by unfold mvS; rw [if_neg (fun e => by rw [h] at e; cases e.1)]

theorem mvV_copy {f : Nat → Nat} {st : Nat → Bool} {x : Nat} {S : MS} (h : isPtr st x = true) (h0 : S.fw (x / 4) = 0) : mvV f st x S = 4 * S.n := by
  unfold mvV
  rw [if_pos h, mvS_copy h h0]
  simp [MS.copy, upd_same]

theorem mvV_same {f : Nat → Nat} {st : Nat → Bool} {x : Nat} {S : MS} (h : isPtr st x = true) (h0 : S.fw (x / 4) ≠ 0) : mvV f st x S = 4 * S.fw (x / 4) := by
  unfold mvV
  rw [if_pos h, mvS_same h0]

theorem mvV_no {f : Nat → Nat} {st : Nat → Bool} {x : Nat} {S : MS} (h : isPtr st x = false) : mvV f st x S = x := by
  unfold mvV
  rw [if_neg (by rw [h]; decide)]

theorem copy_old {f : Nat → Nat} {p : Nat} {S : MS} {i : Nat} (h : i < S.n) : (S.copy f p).f i = S.f i := by simp [MS.copy, h]

theorem copy_new {f : Nat → Nat} {p : Nat} {S : MS} (i : Nat) : (S.copy f p).f (S.n + i) = f (p + i) := by
  show (if S.n + i < S.n then S.f (S.n + i) else f (p + (S.n + i - S.n))) = _
  rw [if_neg (by omega), Nat.add_sub_cancel_left]

theorem MSok.copy {n : Nat} {f : Nat → Nat} {st : Nat → Bool} {S : MS} (h : MSok n f st S) (hg : Good n f st) (hfb : ∀ i, i < n → f i < 18446744073709551616) {p : Nat} (hp : st p = true) (h0 : S.fw p = 0) : MSok n f st (S.copy f p) := by
  have hpn := (hg.inn p hp).2
  have hpos := h.good.pos
  have hlen : 1 ≤ hLen (f p) := by unfold hLen; omega
  have en : (S.copy f p).n = S.n + hLen (f p) := rfl
  have hnew : (S.copy f p).f S.n = f p := by have := copy_new (f := f) (p := p) (S := S) 0; simpa using this
  have key : ∀ q, (S.copy f p).st q = true → q = S.n ∨ (S.st q = true ∧ q < S.n) := fun q e => by
    by_cases hq : q = S.n
    · exact .inl hq
    · have : (S.copy f p).st q = S.st q := also_old hq
      rw [this] at e
      exact .inr ⟨e, h.good.lt e⟩
  have hst : ∀ q, S.st q = true → (S.copy f p).st q = true := fun q e => by
    show also S.st S.n q = true
    unfold also
    rw [e]
    rfl
  refine ⟨?_, fun q hq => ?_, ⟨by rw [en]; omega, fun q e => ?_, fun q e => ?_, fun q q' e e' hlt => ?_⟩, fun i hi => ?_, fun q e => ?_, ?_⟩
  · rw [en, h.sum, sumL_more (b := fun q => S.fw q != 0) (c := fun q => (S.copy f p).fw q != 0) (p := p) (by simp [h0]) (by simp [MS.copy, upd_same]; omega) (fun q hq => by simp [MS.copy, upd_other hq]) (hg.lt hp)]
    omega
  · by_cases e : q = p
    · subst e
      have : (S.copy f q).fw q = S.n := upd_same _ _ _
      rw [this, hnew]
      exact ⟨hp, by rw [en]; omega, also_new _ _, rfl⟩
    · have e1 : (S.copy f p).fw q = S.fw q := upd_other e
      rw [e1] at hq ⊢
      obtain ⟨w1, w2, w3, w4⟩ := h.went q hq
      exact ⟨w1, by rw [en]; omega, hst _ w3, by rw [copy_old w2]; exact w4⟩
  · rcases key q e with rfl | ⟨e1, e2⟩
    · rw [hnew, en]; omega
    · rw [copy_old e2, en]; have := h.good.inn q e1; omega
  · rcases key q e with rfl | ⟨e1, e2⟩
    · rw [hnew]; exact hg.tag p hp
    · rw [copy_old e2]; exact h.good.tag q e1
  · rcases key q e with rfl | ⟨e1, e2⟩
    · rcases key q' e' with rfl | ⟨e3, e4⟩ <;> omega
    · rw [copy_old e2]
      rcases key q' e' with rfl | ⟨e3, e4⟩
      · exact (h.good.inn q e1).2
      · exact h.good.apart q q' e1 e3 hlt
  · by_cases e : i < S.n
    · rw [copy_old e]; exact h.fb i e
    · rw [show i = S.n + (i - S.n) by omega, copy_new]
      rw [en] at hi
      exact hfb _ (by omega)
  · rcases key q e with rfl | ⟨e1, e2⟩
    · rw [hnew]; exact .inl rfl
    · rw [copy_old e2]
      rcases h.next q e1 with e3 | e3
      · exact .inr (by rw [e3]; exact also_new _ _)
      · exact .inr (hst _ e3)
  · rcases h.first with e | e
    · exact .inr (by rw [← e]; exact also_new _ _)
    · exact .inr (hst _ e)

theorem MSok.mv {n : Nat} {f : Nat → Nat} {st : Nat → Bool} {S : MS} (h : MSok n f st S) (hg : Good n f st) (hfb : ∀ i, i < n → f i < 18446744073709551616) (x : Nat) : MSok n f st (mvS f st x S) := by
  unfold mvS
  by_cases c : isPtr st x = true ∧ S.fw (x / 4) = 0
  · rw [if_pos c]
    exact h.copy hg hfb (isPtr_st c.1).1 c.2
  · rw [if_neg c]
    exact h

theorem mvS_grows {f : Nat → Nat} {st : Nat → Bool} {x : Nat} {S : MS} : S.n ≤ (mvS f st x S).n ∧ (∀ i, i < S.n → (mvS f st x S).f i = S.f i) ∧ (∀ p, S.st p = true → (mvS f st x S).st p = true) ∧ (∀ p, S.fw p ≠ 0 → (mvS f st x S).fw p = S.fw p) := by
  unfold mvS
  by_cases c : isPtr st x = true ∧ S.fw (x / 4) = 0
  · rw [if_pos c]
    refine ⟨by show S.n ≤ S.n + _; omega, fun i hi => copy_old hi, fun p e => ?_, fun p hp => ?_⟩
    · show also S.st S.n p = true
      unfold also
      rw [e]
      rfl
    · exact upd_other (fun e => hp (by rw [e]; exact c.2))
  · rw [if_neg c]
    exact ⟨Nat.le_refl _, fun _ _ => rfl, fun _ e => e, fun _ _ => rfl⟩

/-- A word that is moved is a word of 64 bits. -/
theorem mvV_lt {n : Nat} {f : Nat → Nat} {st : Nat → Bool} {S : MS} (h : MSok n f st S) (hg : Good n f st) (hfb : ∀ i, i < n → f i < 18446744073709551616) (hn : n ≤ 1048576) {x : Nat} (hx : x < 18446744073709551616) : mvV f st x S < 18446744073709551616 := by
  unfold mvV
  by_cases c : isPtr st x = true
  · rw [if_pos c]
    have h2 := h.mv hg hfb x
    have := h2.le hg
    by_cases e : (mvS f st x S).fw (x / 4) = 0
    · omega
    · have := (h2.went _ e).2.1
      omega
  · rw [if_neg c]; exact hx

/-- A word on the other side is set, where no header is. -/
def MS.set (S : MS) (i x : Nat) : MS := ⟨S.fw, S.n, upd S.f i x, S.st⟩

theorem MSok.set {n : Nat} {f : Nat → Nat} {st : Nat → Bool} {S : MS} (h : MSok n f st S) {i x : Nat} (hi : S.st i = false) (hx : x < 18446744073709551616) : MSok n f st (S.set i x) := by
  have key : ∀ q, S.st q = true → upd S.f i x q = S.f q := fun q e => upd_other (fun ee => by rw [ee, hi] at e; cases e)
  refine ⟨h.sum, fun p hp => ?_, h.good.set hi, fun j hj => ?_, fun p e => ?_, h.first⟩
  · obtain ⟨w1, w2, w3, w4⟩ := h.went p hp
    exact ⟨w1, w2, w3, by show upd S.f i x (S.fw p) = _; rw [key _ w3]; exact w4⟩
  · show upd S.f i x j < _
    by_cases e : j = i
    · rw [e, upd_same]; exact hx
    · rw [upd_other e]; exact h.fb j hj
  · show p + hLen (upd S.f i x p) = S.n ∨ S.st (p + hLen (upd S.f i x p)) = true
    rw [key p e]
    exact h.next p e

/-- The tagged fields from 'first' on are moved, one behind the other. -/
def fieldsS (f : Nat → Nat) (st : Nat → Bool) (first : Nat) : Nat → MS → MS
  | 0, S => S
  | k + 1, S => ((mvS f st ((fieldsS f st first k S).f (first + k)) (fieldsS f st first k S)).set (first + k) (mvV f st ((fieldsS f st first k S).f (first + k)) (fieldsS f st first k S)))

/-- All roots are moved. -/
def rootsS (f : Nat → Nat) (st : Nat → Bool) (r : Nat → Nat) : Nat → MS → MS
  | 0, S => S
  | k + 1, S => mvS f st (r k) (rootsS f st r k S)

/-- The objects on the other side are gone through, from a place on. -/
def scanS (f : Nat → Nat) (st : Nat → Bool) : Nat → Nat → MS → MS
  | 0, _, S => S
  | d + 1, place, S => if place < S.n then scanS f st d (place + hLen (S.f place)) (fieldsS f st (place + 1) (hTag (S.f place)) S) else S

/-- A collection. -/
def collS (n : Nat) (f : Nat → Nat) (st : Nat → Bool) (r : Nat → Nat) (l : Nat) : MS := scanS f st n 1 (rootsS f st r l MS.zero)

/-- A heap on the move: the half in use (i) holds what was moved (S), the other one what is left behind (f, st: as they were at first). -/
structure MovIn (w : World) (hb : Nat) (X : Nat → Prop) (sz : Nat) (tm : Int) (n : Nat) (f : Nat → Nat) (st : Nat → Bool) (S : MS) (i : Nat) (v u v' u' : Value) (m : Nat) (s : Nat → Nat) (m' : Nat) (s' : Nat → Nat) : Prop where
  i1 : i ≤ 1
  a : HalfAt 22 134 w hb (heapCells i v u v' u' sz tm) (2 * i) v u S.n S.f m s
  b : HalfAt 22 134 w hb (heapCells i v u v' u' sz tm) (2 * (1 - i)) v' u' n (fwd f st S.fw) m' s'
  far : ∀ g, (v.ownBlock = some g ∨ u.ownBlock = some g) → ¬ (v'.ownBlock = some g ∨ u'.ownBlock = some g)
  markT : ∀ p, S.st p = marks m s p
  sbT : ∀ i, i < m → s i < 18446744073709551616
  mlT : m ≤ 16385
  markF : ∀ p, st p = marks m' s' p
  sbF : ∀ i, i < m' → s' i < 18446744073709551616
  mlF : m' ≤ 16385
  good : Good n f st
  fb : ∀ i, i < n → f i < 18446744073709551616
  ok : MSok n f st S
  nz : n ≤ sz
  z : sz ≤ 1048576
  xs : ∀ k, X k ↔ (foot hb v u k ∨ v'.ownBlock = some k ∨ u'.ownBlock = some k)

def Mov (w : World) (hb : Nat) (X : Nat → Prop) (sz : Nat) (tm : Int) (n : Nat) (f : Nat → Nat) (st : Nat → Bool) (S : MS) (i : Nat) : Prop :=
  ∃ v u v' u' m s m' s', MovIn w hb X sz tm n f st S i v u v' u' m s m' s'

theorem MovIn.fr {T : Nat → Prop} {w w2 : World} {hb : Nat} {X : Nat → Prop} {sz : Nat} {tm : Int} {n : Nat} {f : Nat → Nat} {st : Nat → Bool} {S : MS} {i : Nat} {v u v' u' : Value} {m : Nat} {s : Nat → Nat} {m' : Nat} {s' : Nat → Nat} (h : MovIn w hb X sz tm n f st S i v u v' u' m s m' s') (hf : Fr T w w2) (hs : ∀ k, X k → ¬ T k) : MovIn w2 hb X sz tm n f st S i v u v' u' m s m' s' :=
  ⟨h.i1, h.a.fr hf fun k hk => hs k ((h.xs k).2 (.inl hk)), h.b.fr hf fun k hk => hs k ((h.xs k).2 (by
    rcases hk with e | e
    · exact .inl (.inl e)
    · exact .inr e)), h.far, h.markT, h.sbT, h.mlT, h.markF, h.sbF, h.mlF, h.good, h.fb, h.ok, h.nz, h.z, h.xs⟩

theorem Mov.fr {T : Nat → Prop} {w w2 : World} {hb : Nat} {X : Nat → Prop} {sz : Nat} {tm : Int} {n : Nat} {f : Nat → Nat} {st : Nat → Bool} {S : MS} {i : Nat} (h : Mov w hb X sz tm n f st S i) (hf : Fr T w w2) (hs : ∀ k, X k → ¬ T k) : Mov w2 hb X sz tm n f st S i := by
  obtain ⟨v, u, v', u', m, s, m', s', h⟩ := h
  exact ⟨v, u, v', u', m, s, m', s', h.fr hf hs⟩

theorem Mov.lt {w : World} {hb : Nat} {X : Nat → Prop} {sz : Nat} {tm : Int} {n : Nat} {f : Nat → Nat} {st : Nat → Bool} {S : MS} {i : Nat} (h : Mov w hb X sz tm n f st S i) {k : Nat} (hk : X k) : k < w.heap.size := by
  obtain ⟨v, u, v', u', m, s, m', s', h⟩ := h
  rcases (h.xs k).1 hk with (e | e | e) | e | e
  · rw [e]; exact h.a.lt
  · exact h.a.ov.block_lt e
  · exact h.a.ou.block_lt e
  · exact h.b.ov.block_lt e
  · exact h.b.ou.block_lt e

theorem MovIn.ptr {w : World} {hb : Nat} {X : Nat → Prop} {sz : Nat} {tm : Int} {n : Nat} {f : Nat → Nat} {st : Nat → Bool} {S : MS} {i : Nat} {v u v' u' : Value} {m : Nat} {s : Nat → Nat} {m' : Nat} {s' : Nat → Nat} (h : MovIn w hb X sz tm n f st S i v u v' u' m s m' s') (x : Nat) : isPtr (marks m' s') x = isPtr st x := by
  unfold isPtr
  rw [h.markF]

theorem fwd_went {f : Nat → Nat} {st : Nat → Bool} {fw : Nat → Nat} {p : Nat} (h : st p = true) (h0 : fw p ≠ 0) : fwd f st fw p = 4 * fw p := by unfold fwd; rw [if_pos ⟨h, h0⟩]

theorem fwd_not {f : Nat → Nat} {st : Nat → Bool} {fw : Nat → Nat} {p : Nat} (h0 : fw p = 0) : fwd f st fw p = f p := by unfold fwd; rw [if_neg (fun e => e.2 h0)]

theorem fwd_field {f : Nat → Nat} {st : Nat → Bool} {fw : Nat → Nat} {p : Nat} (h0 : st p = false) : fwd f st fw p = f p := by unfold fwd; rw [if_neg (fun e => by rw [h0] at e; cases e.1)]

/-- The two cells of a move. -/
theorem mcells (w : World) (p q : Value) (E : TypeId) : (w.alloc (.cells #[p, q] E)).cell? ⟨w.heap.size, 0, none⟩ = some p ∧ (w.alloc (.cells #[p, q] E)).cell? ⟨w.heap.size, 1, none⟩ = some q := by
  constructor
  · rw [cell_of_row _ _ _ _ _ _ (heap_alloc_new w _)]; rfl
  · rw [cell_of_row _ _ _ _ _ _ (heap_alloc_new w _)]; rfl

set_option maxHeartbeats 2000000 in
theorem word_no (w : World) (hb : Nat) (X : Nat → Prop) (sz : Nat) (tm : Int) (n : Nat) (f : Nat → Nat) (st : Nat → Bool) (S : MS) (i x : Nat) (h : Mov w hb X sz tm n f st S i) (hx : x < 18446744073709551616) (hp : isPtr st x = false) :
    Calls Try.prog 121 #[.agg #[.pointer (some ⟨hb, 2 * (1 - i), none⟩), .pointer (some ⟨hb, 2 * i, none⟩)], .int .u64 (x : Int)] w fun e w' => e = .returned (.int .u64 (x : Int)) ∧ Fr (fun _ => False) w w' := by
  obtain ⟨v, u, v', u', m, s, m', s', h⟩ := h
  have hp' := h.ptr x
  rw [hp] at hp'
  have K := hplace_no 134 _ hb _ _ v' u' n _ m' s' x (h.b.alloc (.cells #[.pointer (some ⟨hb, 2 * (1 - i), none⟩), .pointer (some ⟨hb, 2 * i, none⟩)] 139)) (by have := h.mlF; omega) h.sbF hx hp'
  go_enter Try.func121, Try.ntmps121
  go_wp2_with (go_at_call 110; refine K.mono ?_; rintro e w' ⟨rfl, rfl⟩)
  go_ret
  exact ⟨rfl, (Fr.refl _ _).alloc _⟩

set_option maxHeartbeats 2000000 in
theorem word_same (w : World) (hb : Nat) (X : Nat → Prop) (sz : Nat) (tm : Int) (n : Nat) (f : Nat → Nat) (st : Nat → Bool) (S : MS) (i x : Nat) (h : Mov w hb X sz tm n f st S i) (hx : x < 18446744073709551616) (hp : isPtr st x = true) (h0 : S.fw (x / 4) ≠ 0) :
    Calls Try.prog 121 #[.agg #[.pointer (some ⟨hb, 2 * (1 - i), none⟩), .pointer (some ⟨hb, 2 * i, none⟩)], .int .u64 (x : Int)] w fun e w' => e = .returned (.int .u64 ((4 * S.fw (x / 4) : Nat) : Int)) ∧ Fr (fun _ => False) w w' := by
  obtain ⟨v, u, v', u', m, s, m', s', h⟩ := h
  have hp' := h.ptr x
  rw [hp] at hp'
  have hst := (isPtr_st hp).1
  have hlt := h.good.lt hst
  have hA := h.b.alloc (.cells #[.pointer (some ⟨hb, 2 * (1 - i), none⟩), .pointer (some ⟨hb, 2 * i, none⟩)] 139)
  have K := hplace_yes 134 _ hb _ _ v' u' n _ m' s' x hA (by have := h.mlF; omega) h.sbF hx hp'
  have hcv := hA.cellv
  obtain ⟨g, cap, rfl, hc1, hc2, hcl⟩ := hA.ov.rd hlt
  rw [fwd_went hst h0] at hcl
  have hwl := (h.ok.went _ h0).2.1
  have hle := h.ok.le h.good
  have hz := h.z
  have hnz := h.nz
  have hB := and_2 (4 * S.fw (x / 4)) (by omega)
  rw [show 4 * S.fw (x / 4) % 4 = 0 by omega] at hB
  obtain ⟨y, hy⟩ : ∃ y : Nat, y = 4 * S.fw (x / 4) := ⟨_, rfl⟩
  rw [← hy] at hB hcl ⊢
  have hB0 : bits BinOp.and IntKind.u64 (y : Int) 3 = 0 := hB
  obtain ⟨p, hpp⟩ : ∃ p : Nat, p = x / 4 := ⟨_, rfl⟩
  rw [← hpp] at K hcl
  have hpn : p < n := by omega
  clear hB hy h hA hp' hst hwl hle hpp hlt h0
  go_enter Try.func121, Try.ntmps121
  go_wp2_with (go_at_call 110; refine K.mono ?_; rintro e w' ⟨rfl, hw⟩; replace hw := hw.symm; subst hw)
  go_ret
  exact ⟨rfl, (Fr.refl _ _).alloc _⟩

theorem fwd_upd {f : Nat → Nat} {st : Nat → Bool} {fw : Nat → Nat} {p x : Nat} (hp : st p = true) (hx : x ≠ 0) (i : Nat) : upd (fwd f st fw) p (4 * x) i = fwd f st (upd fw p x) i := by
  by_cases e : i = p
  · subst e
    rw [upd_same, fwd_went hp (by rw [upd_same]; exact hx), upd_same]
  · rw [upd_other e]
    unfold fwd
    rw [upd_other e]

theorem HalfAt.congr {E T : TypeId} {w : World} {hb : Nat} {cur : Array Value} {o : Nat} {v u : Value} {n : Nat} {f f' : Nat → Nat} {m : Nat} {s : Nat → Nat} (h : HalfAt E T w hb cur o v u n f m s) (hf : ∀ i, i < n → f i = f' i) : HalfAt E T w hb cur o v u n f' m s :=
  ⟨h.blk, h.cv, h.cu, h.ov.congr hf, h.ou, h.nv, h.nu, h.nn⟩

theorem MovIn.copied {w w2 : World} {hb : Nat} {X : Nat → Prop} {sz : Nat} {tm : Int} {n : Nat} {f : Nat → Nat} {st : Nat → Bool} {S : MS} {i : Nat} {v u u' : Value} {m : Nat} {s : Nat → Nat} {m' : Nat} {s' : Nat → Nat} {g cap : Nat} (h : MovIn w hb X sz tm n f st S i v u (.slice (some ⟨g, 0, none⟩) n cap) u' m s m' s') {p : Nat} (hp : st p = true) (h0 : S.fw p = 0)
    {v2 u2 : Value} {m2 : Nat} {s2 : Nat → Nat} (ha : HalfAt 22 134 w2 hb (heapCells i v2 u2 (.slice (some ⟨g, 0, none⟩) n cap) u' sz tm) (2 * i) v2 u2 (S.n + hLen (f p)) (S.copy f p).f m2 s2) (hmk : ∀ q, marks m2 s2 q = also (marks m s) S.n q) (hsb : ∀ i, i < m2 → s2 i < 18446744073709551616) (hml : m2 ≤ 16385) (hu : Stays w.heap.size u u2) (hv : Stays w.heap.size v v2) (hf : Fr (foot hb v u) w w2) :
    w2.cell? ⟨hb, 2 * (1 - i), none⟩ = some (.slice (some ⟨g, 0, none⟩) n cap) ∧ w2.cell? ⟨g, p, none⟩ = some (.int .u64 (f p)) ∧ w2.frozen? ⟨g, p, none⟩ = false ∧
    ∃ X2, MovIn (w2.setCell ⟨g, p, none⟩ (.int .u64 ((4 * S.n : Nat) : Int))) hb X2 sz tm n f st (S.copy f p) i v2 u2 (.slice (some ⟨g, 0, none⟩) n cap) u' m2 s2 m' s' ∧ Grows w.heap.size X X2 ∧ Fr X w (w2.setCell ⟨g, p, none⟩ (.int .u64 ((4 * S.n : Nat) : Int))) := by
  have hlt := h.good.lt hp
  have hpos := h.ok.good.pos
  have key : ∀ k, (v2.ownBlock = some k ∨ u2.ownBlock = some k) → (v.ownBlock = some k ∨ u.ownBlock = some k) ∨ w.heap.size ≤ k := fun k e => by
    rcases e with e | e
    · rcases hv k e with e | e
      · exact .inl (.inl e)
      · exact .inr e
    · rcases hu k e with e | e
      · exact .inl (.inr e)
      · exact .inr e
  have hnot : ∀ k, ((Value.slice (some ⟨g, 0, none⟩) n cap).ownBlock = some k ∨ u'.ownBlock = some k) → ¬ foot hb v u k := fun k e e2 => by
    rcases e2 with e2 | e2
    · subst e2
      rcases e with e | e
      · exact h.b.nv e
      · exact h.b.nu e
    · exact h.far k e2 e
  have far2 : ∀ k, (v2.ownBlock = some k ∨ u2.ownBlock = some k) → ¬ ((Value.slice (some ⟨g, 0, none⟩) n cap).ownBlock = some k ∨ u'.ownBlock = some k) := fun k e e2 => by
    rcases key k e with e | e
    · exact h.far k e e2
    · rcases e2 with e2 | e2
      · have := h.b.ov.block_lt e2; omega
      · have := h.b.ou.block_lt e2; omega
  have hb2 : HalfAt 22 134 w2 hb (heapCells i v2 u2 (.slice (some ⟨g, 0, none⟩) n cap) u' sz tm) (2 * (1 - i)) (.slice (some ⟨g, 0, none⟩) n cap) u' n (fwd f st S.fw) m' s' :=
    ⟨ha.blk, (heapCells_other h.i1 _ _ _ _ _ _).1, (heapCells_other h.i1 _ _ _ _ _ _).2, h.b.ov.fr hf fun k hk => hnot k (.inl hk), h.b.ou.fr hf fun k hk => hnot k (.inr hk), h.b.nv, h.b.nu, h.b.nn⟩
  have hrow : RowAt .u64 22 w2 g cap n (fwd f st S.fw) := by
    rcases hb2.ov with ⟨e, _⟩ | ⟨g', cap', e, _, _, h3⟩
    · cases e
    · cases e; exact h3
  have hcl := hrow.cell hlt
  rw [fwd_not h0] at hcl
  refine ⟨hb2.cellv, hcl, hrow.free p, fun k => foot hb v2 u2 k ∨ (Value.slice (some ⟨g, 0, none⟩) n cap).ownBlock = some k ∨ u'.ownBlock = some k, ⟨h.i1, ha.fr (S := fun k => k = g) (Fr.setCell (S := fun k => k = g) (Fr.refl _ _) (fun _ => rfl) _ _) fun k hk e => ?_, (hb2.setV hlt (4 * S.n)).congr (fun k _ => fwd_upd hp (by omega) k), far2, fun q => ?_, hsb, hml, h.markF, h.sbF, h.mlF, h.good, h.fb, h.ok.copy h.good h.fb hp h0, h.nz, h.z, fun _ => Iff.rfl⟩, fun k hk => ?_, ?_⟩
  · subst e
    rcases hk with e | e
    · exact hb2.nv (by rw [← e]; rfl)
    · exact far2 _ e (.inl rfl)
  · rw [hmk]
    show also S.st S.n q = _
    unfold also
    rw [h.markT]
  · rcases hk with (e | e) | e
    · exact .inl ((h.xs k).2 (.inl (.inl e)))
    · rcases key k e with e | e
      · exact .inl ((h.xs k).2 (.inl (.inr e)))
      · exact .inr e
    · exact .inl ((h.xs k).2 (.inr e))
  · exact (hf.mono fun k _ e => (h.xs k).2 (.inl e)).setCell (fun _ => (h.xs g).2 (.inr (.inl rfl))) _ _

set_option maxHeartbeats 4000000 in
theorem word_copy (w : World) (hb : Nat) (X : Nat → Prop) (sz : Nat) (tm : Int) (n : Nat) (f : Nat → Nat) (st : Nat → Bool) (S : MS) (i x p : Nat) (h : Mov w hb X sz tm n f st S i) (hx : x < 18446744073709551616) (hp : isPtr st x = true) (hxp : x / 4 = p) (h0 : S.fw p = 0) :
    Calls Try.prog 121 #[.agg #[.pointer (some ⟨hb, 2 * (1 - i), none⟩), .pointer (some ⟨hb, 2 * i, none⟩)], .int .u64 (x : Int)] w fun e w' => e = .returned (.int .u64 ((4 * S.n : Nat) : Int)) ∧ ∃ X2, Mov w' hb X2 sz tm n f st (S.copy f p) i ∧ Grows w.heap.size X X2 ∧ Fr X w w' := by
  obtain ⟨v, u, v', u', m, s, m', s', h⟩ := h
  have hp' := h.ptr x
  rw [hp] at hp'
  have hst := (isPtr_st hp).1
  rw [hxp] at hst
  have hlt := h.good.lt hst
  have hle := (h.ok.copy h.good h.fb hst h0).le h.good
  have hz := h.z
  have hnz := h.nz
  have hend := (h.good.inn p hst).2
  have hL : 1 ≤ hLen (f p) := by unfold hLen; omega
  have hfp := h.fb p hlt
  have hM := h.fr (T := fun _ => False) ((Fr.refl _ w).alloc (.cells #[.pointer (some ⟨hb, 2 * (1 - i), none⟩), .pointer (some ⟨hb, 2 * i, none⟩)] 139)) (fun _ _ e => e)
  have K := hplace_yes 134 _ hb _ _ v' u' n _ m' s' x hM.b (by have := h.mlF; omega) h.sbF hx hp'
  rw [hxp] at K
  have hcv := hM.b.cellv
  obtain ⟨g, cap, rfl, hc1, hc2, hcl⟩ := hM.b.ov.rd hlt
  rw [fwd_not h0] at hcl
  have hB := and_2 (f p) hfp
  have htag := h.good.tag p hst
  rw [htag] at hB
  have hB0 : bits BinOp.and IntKind.u64 (f p : Int) 3 = 3 := hB
  have hlen2 : (S.copy f p).n = S.n + hLen (f p) := rfl
  have hd : ∀ k, k < hLen (f p) → (w.alloc (.cells #[.pointer (some ⟨hb, 2 * (1 - i), none⟩), .pointer (some ⟨hb, 2 * i, none⟩)] 139)).cell? ⟨g, p + k, none⟩ = some (.int .u64 (f (p + k))) := fun k hk => by
    obtain ⟨g', cap', e, _, _, hck⟩ := hM.b.ov.rd (i := p + k) (by omega)
    cases e
    rw [hck]
    by_cases e : k = 0
    · subst e
      rw [Nat.add_zero, fwd_not h0]
    · have := h.good.field (p := p) (i := k - 1) hst (by omega)
      rw [show p + 1 + (k - 1) = p + k by omega] at this
      rw [fwd_field this]
  have hgb := World.block_lt_of_cell? _ _ hcl
  have KL := fun w1 (hf : Fr (fun _ => False) (w.alloc (.cells #[.pointer (some ⟨hb, 2 * (1 - i), none⟩), .pointer (some ⟨hb, 2 * i, none⟩)] 139)) w1) => layCopy_any 134 w1 hb _ (2 * i) v u S.n S.f m s g p (hLen (f p)) (cap - p) (fun k => f (p + k)) (hM.fr hf (fun _ _ e => e)).a (by omega) (by omega) (by omega) (by omega) h.mlT h.sbT (fun k hk => (hf.cell (o := p + k) hgb (fun e => e)).trans (hd k hk)) (fun e => h.b.nv (by rw [e]; rfl)) (fun e => h.far g (.inr e) (.inl rfl)) (fun e => h.far g (.inl e) (.inl rfl))
  have HM := hide hM
  have HB : Hid (¬ foot hb v u w.heap.size) := hide fun e => by
    rcases e with e | e | e
    · have := h.a.lt; omega
    · have := h.a.ov.block_lt e; omega
    · have := h.a.ou.block_lt e; omega
  have KW := fun w => words_num (f p) w hfp
  obtain ⟨L, hLe⟩ : ∃ L, L = hLen (f p) := ⟨_, rfl⟩
  rw [← hLe] at KW KL hend hL
  have HLE := hide hLe
  clear hB htag hd hM hp' hlen2 hLe
  go_enter Try.func121, Try.ntmps121
  go_wp2_with (first
    | (go_at_call 110; refine K.mono ?_; rintro e w' ⟨rfl, hw⟩; replace hw := hw.symm; subst hw)
    | (go_at_call 89; refine (KW _).mono ?_; rintro e w' ⟨rfl, hw⟩; replace hw := hw.symm; subst hw))
  go_region_with (go_at_call 137; refine (KL _ ?_).mono ?_; exact (Fr.refl _ _).drew; rintro e w2 ⟨rfl, v2, u2, m2, s2, ha2, hmk2, hsb2, hml2, su2, sv2, hf2⟩)
  all_goals
    rw [heapCells_u HM.out.i1, heapCells_v HM.out.i1, HLE.out] at ha2
    obtain ⟨hq1, hq2, hq3, X2, hM2, hG2, hF2⟩ := HM.out.copied hst h0 ha2 hmk2 hsb2 hml2 su2 sv2 (Fr.trans ((Fr.refl _ _).drew) hf2 (fun _ _ e => e))
    have hbx := (hf2.cell (o := 0) (b := w.heap.size) (by simp) HB.out).trans (mcells w _ _ _).1
    have HM2 := hide hM2
    have HG2 := hide hG2
    have HF2 := hide hF2
    clear hM2 hG2 hF2 ha2 hmk2 hsb2 hml2 su2 sv2 hf2
    go_wp2
    go_ret
    refine ⟨retI (by omega), X2, ⟨_, _, _, _, _, _, _, _, HM2.out⟩, fun k hk => ?_, Fr.trans ((Fr.refl _ _).alloc _) HF2.out (fun _ _ e => e)⟩
    rcases HG2.out k hk with e | e
    · exact .inl e
    · simp at e
      exact .inr (by omega)

theorem word_any (w : World) (hb : Nat) (X : Nat → Prop) (sz : Nat) (tm : Int) (n : Nat) (f : Nat → Nat) (st : Nat → Bool) (S : MS) (i x : Nat) (h : Mov w hb X sz tm n f st S i) (hx : x < 18446744073709551616) :
    Calls Try.prog 121 #[.agg #[.pointer (some ⟨hb, 2 * (1 - i), none⟩), .pointer (some ⟨hb, 2 * i, none⟩)], .int .u64 (x : Int)] w fun e w' => e = .returned (.int .u64 (mvV f st x S : Int)) ∧ ∃ X2, Mov w' hb X2 sz tm n f st (mvS f st x S) i ∧ Grows w.heap.size X X2 ∧ Fr X w w' := by
  cases hp : isPtr st x with
  | false =>
    rw [mvV_no hp, mvS_no hp]
    exact (word_no w hb X sz tm n f st S i x h hx hp).mono fun e w' he => ⟨he.1, X, h.fr he.2 (fun _ _ e => e), Grows.refl _ _, he.2.mono fun _ _ e => e.elim⟩
  | true =>
    by_cases h0 : S.fw (x / 4) = 0
    · rw [mvV_copy hp h0, mvS_copy hp h0]
      exact word_copy w hb X sz tm n f st S i x (x / 4) h hx hp rfl h0
    · rw [mvV_same hp h0, mvS_same h0]
      exact (word_same w hb X sz tm n f st S i x h hx hp h0).mono fun e w' he => ⟨he.1, X, h.fr he.2 (fun _ _ e => e), Grows.refl _ _, he.2.mono fun _ _ e => e.elim⟩

/-- A word of the half in use is set. -/
theorem MovIn.put {w : World} {hb : Nat} {X : Nat → Prop} {sz : Nat} {tm : Int} {n : Nat} {f : Nat → Nat} {st : Nat → Bool} {S : MS} {i : Nat} {u v' u' : Value} {m : Nat} {s : Nat → Nat} {m' : Nat} {s' : Nat → Nat} {g cap : Nat} (h : MovIn w hb X sz tm n f st S i (.slice (some ⟨g, 0, none⟩) S.n cap) u v' u' m s m' s') {j y : Nat} (hj : j < S.n) (hst : S.st j = false) (hy : y < 18446744073709551616) :
    w.cell? ⟨g, j, none⟩ = some (.int .u64 (S.f j)) ∧ w.frozen? ⟨g, j, none⟩ = false ∧ MovIn (w.setCell ⟨g, j, none⟩ (.int .u64 y)) hb X sz tm n f st (S.set j y) i (.slice (some ⟨g, 0, none⟩) S.n cap) u v' u' m s m' s' ∧ Fr X w (w.setCell ⟨g, j, none⟩ (.int .u64 y)) := by
  have hX : X g := (h.xs g).2 (.inl (.inr (.inl rfl)))
  have hfr : Fr (fun k => k = g) w (w.setCell ⟨g, j, none⟩ (.int .u64 y)) := Fr.setCell (S := fun k => k = g) (Fr.refl _ _) (fun _ => rfl) _ _
  have hrow : RowAt .u64 22 w g cap S.n S.f := by
    rcases h.a.ov with ⟨e, _⟩ | ⟨g', cap', e, _, _, h3⟩
    · cases e
    · cases e; exact h3
  refine ⟨hrow.cell hj, hrow.free j, ⟨h.i1, h.a.setV hj y, h.b.fr hfr fun k hk e => ?_, h.far, h.markT, h.sbT, h.mlT, h.markF, h.sbF, h.mlF, h.good, h.fb, h.ok.set hst hy, h.nz, h.z, h.xs⟩, Fr.setCell (Fr.refl _ _) (fun _ => hX) _ _⟩
  subst e
  rcases hk with e | e
  · exact h.a.nv (by rw [e]; rfl)
  · exact h.far _ (.inl rfl) e

theorem mvS_st_old {f : Nat → Nat} {st : Nat → Bool} {x : Nat} {S : MS} {p : Nat} (h : p < S.n) : (mvS f st x S).st p = S.st p := by
  unfold mvS
  split
  · exact also_old (by omega)
  · rfl

theorem fieldsS_keeps (f : Nat → Nat) (st : Nat → Bool) (first : Nat) (S : MS) : ∀ k, S.n ≤ (fieldsS f st first k S).n ∧ (∀ p, p < S.n → (fieldsS f st first k S).st p = S.st p) ∧ (∀ p, p < S.n → (p < first ∨ first + k ≤ p) → (fieldsS f st first k S).f p = S.f p)
  | 0 => ⟨Nat.le_refl _, fun _ _ => rfl, fun _ _ _ => rfl⟩
  | k + 1 => by
    obtain ⟨i1, i2, i3⟩ := fieldsS_keeps f st first S k
    have hg := mvS_grows (f := f) (st := st) (x := (fieldsS f st first k S).f (first + k)) (S := fieldsS f st first k S)
    refine ⟨by show S.n ≤ (mvS _ _ _ _).n; omega, fun p hp => ?_, fun p hp hq => ?_⟩
    · show (mvS _ _ _ _).st p = _
      rw [mvS_st_old (by omega)]
      exact i2 p hp
    · show upd (mvS _ _ _ _).f _ _ p = _
      rw [upd_other (by omega), hg.2.1 p (by omega)]
      exact i3 p hp (by omega)

theorem MSok.fields {n : Nat} {f : Nat → Nat} {st : Nat → Bool} {S : MS} (h : MSok n f st S) (hg : Good n f st) (hfb : ∀ i, i < n → f i < 18446744073709551616) (hn : n ≤ 1048576) {first count : Nat} (hc : first + count ≤ S.n) (hst : ∀ k, k < count → S.st (first + k) = false) : ∀ k, k ≤ count → MSok n f st (fieldsS f st first k S)
  | 0, _ => h
  | k + 1, hk => by
    have ih := MSok.fields h hg hfb hn hc hst k (by omega)
    obtain ⟨i1, i2, i3⟩ := fieldsS_keeps f st first S k
    have hlt : first + k < (fieldsS f st first k S).n := by omega
    refine (ih.mv hg hfb _).set ?_ (mvV_lt ih hg hfb hn (ih.fb _ hlt))
    rw [mvS_st_old hlt, i2 _ (by omega)]
    exact hst k (by omega)

set_option maxHeartbeats 4000000 in
theorem mfields_any (w : World) (hb : Nat) (X : Nat → Prop) (sz : Nat) (tm : Int) (n : Nat) (f : Nat → Nat) (st : Nat → Bool) (S : MS) (i first count : Nat) (h : Mov w hb X sz tm n f st S i) (hc : first + count ≤ S.n) (hst : ∀ k, k < count → S.st (first + k) = false) :
    Calls Try.prog 122 #[.agg #[.pointer (some ⟨hb, 2 * (1 - i), none⟩), .pointer (some ⟨hb, 2 * i, none⟩)], .int .i64 (first : Int), .int .i64 (count : Int)] w fun e w' => e = .returned (.tuple #[]) ∧ ∃ X2, Mov w' hb X2 sz tm n f st (fieldsS f st first count S) i ∧ Grows w.heap.size X X2 ∧ Fr X w w' := by
  have hbase : Good n f st ∧ (∀ i, i < n → f i < 18446744073709551616) ∧ n ≤ 1048576 ∧ MSok n f st S := by
    obtain ⟨v, u, v', u', m, s, m', s', h⟩ := h
    exact ⟨h.good, h.fb, Nat.le_trans h.nz h.z, h.ok⟩
  obtain ⟨hgd, hfb, hn, hok⟩ := hbase
  have HO := hide (hok.fields hgd hfb hn hc hst)
  have HK := hide (fieldsS_keeps f st first S)
  have hSn := hok.le hgd
  have hlt0 := hide (fun k hk => h.lt (k := k) hk)
  have H := hide h
  have HST := hide hst
  have HGD := hide hgd
  have HFB := hide hfb
  clear h hst hok hgd hfb
  go_enter Try.func122, Try.ntmps122
  go_wp2
  go_loopw [6] (fun a wr => ∃ (k : Nat) (Y : Nat → Prop), k ≤ count ∧ a = .int .i64 ((first + k : Nat) : Int) ∧ Mov wr hb Y sz tm n f st (fieldsS f st first k S) i ∧ Grows w.heap.size X Y ∧ ¬ Y w.heap.size ∧ Fr X w wr ∧ w.heap.size < wr.heap.size ∧ wr.cell? ⟨w.heap.size, 0, none⟩ = some (.pointer (some ⟨hb, 2 * (1 - i), none⟩)) ∧ wr.cell? ⟨w.heap.size, 1, none⟩ = some (.pointer (some ⟨hb, 2 * i, none⟩))) (fun a _ => first + count - (intOf a).toNat)
  case atStart =>
    exact ⟨0, X, Nat.zero_le _, rfl, H.out.fr (T := fun _ => False) ((Fr.refl _ _).alloc _) (fun _ _ e => e), Grows.refl _ _, (fun e => by have := hlt0.out _ e; omega), (Fr.refl _ _).alloc _, by simp, (mcells w _ _ _).1, (mcells w _ _ _).2⟩
  case round =>
    obtain ⟨k, Y, hk, rfl, hM, hG, hY, hF, hsz, hb0, hb1⟩ := hrel
    have hk1 := HK.out k
    by_cases hlt : k < count
    · have hpl : first + k < (fieldsS f st first k S).n := by omega
      have hokk := HO.out k (by omega)
      have hxl := hokk.fb _ hpl
      obtain ⟨place, hplE⟩ : ∃ place, place = first + k := ⟨_, rfl⟩
      have hstk : (fieldsS f st first k S).st place = false := by rw [hplE, hk1.2.1 _ (by omega)]; exact HST.out k hlt
      have hS' : fieldsS f st first (k + 1) S = (mvS f st ((fieldsS f st first k S).f place) (fieldsS f st first k S)).set place (mvV f st ((fieldsS f st first k S).f place) (fieldsS f st first k S)) := by rw [hplE]; rfl
      rw [← hplE] at hpl hxl ⊢
      have hplc : (place : Int) < (first : Int) + (count : Int) := by omega
      have HPL := hide hplE
      obtain ⟨Sk, hSk⟩ : ∃ Sk, Sk = fieldsS f st first k S := ⟨_, rfl⟩
      rw [← hSk] at hpl hxl hstk hM hokk hS'
      have hvl := mvV_lt hokk HGD.out HFB.out hn hxl
      have hle := hokk.le HGD.out
      clear hSk hk1 hplE
      obtain ⟨x, hxE⟩ : ∃ x, x = Sk.f place := ⟨_, rfl⟩
      rw [← hxE] at hS' hvl hxl
      have hpl2 : place < (mvS f st x Sk).n := Nat.lt_of_lt_of_le hpl mvS_grows.1
      have hst2 : (mvS f st x Sk).st place = false := by rw [mvS_st_old hpl]; exact hstk
      have KW := fun w1 (hf : Fr (fun _ => False) wr w1) => word_any w1 hb Y sz tm n f st Sk i x (hM.fr hf (fun _ _ e => e)) hxl
      have HM := hide hM
      obtain ⟨v, u, v', u', m, s, m', s', h⟩ := hM
      have hcv := h.a.cellv
      obtain ⟨g, cap, rfl, hc1, hc2, hcl⟩ := h.a.ov.rd hpl
      rw [← hxE] at hcl
      have HF' := hide hF
      have HS' := hide hS'
      have HX := hide hxl
      have HV := hide hvl
      have HST2 := hide hst2
      have HP2 := hide hpl2
      clear h hxE hS' hokk hstk hxl hvl hst2 hpl2
      obtain ⟨y, hyE⟩ : ∃ y, y = mvV f st x Sk := ⟨_, rfl⟩
      rw [← hyE] at KW HS' HV
      clear hyE
      go_wp2
      go_region_with (go_at_call 121; refine (KW _ ?_).mono ?_; exact (Fr.refl _ _).drew; rintro e w2 ⟨rfl, X2, M2, G2, F2⟩)
      all_goals
        have hb0' := (F2.cell (o := 0) (b := w.heap.size) hsz hY).trans hb0
        have hb1' := (F2.cell (o := 1) (b := w.heap.size) hsz hY).trans hb1
        obtain ⟨v2, u2, v2', u2', m2, s2, m2', s2', M2⟩ := M2
        have hcv2 := M2.a.cellv
        obtain ⟨g2, cap2, rfl, hc21, hc22, hcl2⟩ := M2.a.ov.rd HP2.out
        obtain ⟨q1, q2, q3, q4⟩ := M2.put HP2.out HST2.out HV.out
        have hpn2 : place < (mvS f st x Sk).n := HP2.out
        have Q3 := hide q3
        have Q4 := hide q4
        have HG2 := hide G2
        have HF2 := hide F2
        clear q3 q4 G2 F2 M2
        go_wp2
        have hX2 : ¬ X2 w.heap.size := fun e => by
          rcases HG2.out _ e with e | e
          · exact hY e
          · have e' : wr.heap.size ≤ w.heap.size := e
            omega
        have hsz2 : w.heap.size < w2.heap.size := Nat.lt_of_lt_of_le hsz HF2.out.size
        have hF3 : Fr X w w2 := HF'.out.drew.trans HF2.out fun k hk e => by
          rcases hG k e with e | e
          · exact e
          · omega
        have hF4 : Fr X w (w2.setCell ⟨g2, place, none⟩ (.int .u64 y)) := hF3.trans Q4.out fun k hk e => by
          have hws := HF'.out.size
          rcases HG2.out k e with e | e
          · rcases hG k e with e | e
            · exact e
            · omega
          · have e' : wr.heap.size ≤ k := e
            omega
        refine ⟨⟨k + 1, X2, by omega, ?_, ?_, hG.trans HG2.out HF'.out.size, hX2, hF4, Nat.lt_of_lt_of_le hsz2 Q4.out.size, (Q4.out.cell hsz2 hX2).trans hb0', (Q4.out.cell hsz2 hX2).trans hb1'⟩, ?_⟩
        · rw [show ((place : Int) + 1) = ((first + (k + 1) : Nat) : Int) by have := HPL.out; omega]
        · rw [HS'.out]
          exact ⟨_, _, _, _, _, _, _, _, Q3.out⟩
        · have := HPL.out
          simp [intOf]
          omega
    · have hkc : count = k := by omega
      subst hkc
      have HM := hide hM
      go_wp2
      go_end0
      exact ⟨rfl, Y, HM.out, hG, hF⟩

/-- make([]uint64, n): a block of its own, all noughts. -/
theorem wpList_mkW {w : World} {ops : Array Oper} {rest : List Oper} {o : Oper} {a : Act} {Q : Exit → Act → World → Prop}
    (hg : o.guard = none) (l c : Operand) (hop : o.op = Op.makeSlice 35 l c)
    (kl kc : IntKind) (L C : Int) (n : Nat) (hl : a.eval l = .int kl L) (hc : a.eval c = .int kc C) (hL : L = (n : Int)) (hC : C = (n : Int)) (b2 : 8 * n ≤ 281474976710656)
    (hK : ∀ w', RowAt .u64 22 w' w.heap.size n n (fun _ => 0) → Fr (fun _ => False) w w' → wpList Try.prog ops Q rest (a.put o.dst (.slice (some ⟨w.heap.size, 0, none⟩) n n)) w') :
    wpList Try.prog ops Q (o :: rest) a w := by
  obtain ⟨i, hi, hz0, hz1, hz2⟩ := info_parts infoW
  refine wpList_make_full w hg l c 35 hop w.heap.size 22 i (.int .u64 0) 1 Try.underlying35 hi hz0 hz1 kl kc L C n hl hc hL hC (by rw [hz2]; exact b2) (by unfold maxLen; omega) (Nat.le_refl _) ?_
  intro w' hown hgrow
  refine hK w' ?_ ((Fr.refl _ w).grow hgrow (fun k _ e => by cases e))
  have ho : Own .u64 22 w' w.heap.size (.slice (some ⟨w.heap.size, 0, none⟩) n n) n (fun _ => 0) :=
    Own.of_row hown (fun j hj => by
      rw [show (Value.int .u64 0).cells = #[Value.int .u64 0] from rfl, toList_madeCells_one]
      simp [hj])
  rcases ho with ⟨h, _⟩ | ⟨g, cap, h, _, _, hr⟩
  · cases h
  · cases h
    exact hr

/-- The three objects: what is at their places; want: the middle one's fields. -/
structure FI (f : Nat → Nat) (st : Nat → Bool) (t r : Nat) (want : Nat → Nat) : Prop where
  s1 : st 1 = true
  s4 : st 4 = true
  sb : st (5 + t + r) = true
  f1 : f 1 = hOf 3 1 1
  f2 : f 2 = 2
  f4 : f 4 = hOf 9 t r
  fb : f (5 + t + r) = hOf 4 1 1
  fz : f (7 + t + r) = 0
  fw : ∀ k, k < t + r → f (5 + k) = want k

theorem FI.set {f : Nat → Nat} {st : Nat → Bool} {t r : Nat} {want : Nat → Nat} (h : FI f st t r want) {k y : Nat} (hk : k < t + r) : FI (upd f (5 + k) y) st t r (upd want k y) := by
  refine ⟨h.s1, h.s4, h.sb, ?_, ?_, ?_, ?_, ?_, fun j hj => ?_⟩
  · rw [upd_other (by omega)]; exact h.f1
  · rw [upd_other (by omega)]; exact h.f2
  · rw [upd_other (by omega)]; exact h.f4
  · rw [upd_other (by omega)]; exact h.fb
  · rw [upd_other (by omega)]; exact h.fz
  · by_cases e : j = k
    · rw [e, upd_same, upd_same]
    · rw [upd_other e, upd_other (by omega)]; exact h.fw j hj

theorem Only.fr {g : Nat} {w w' : World} (h : Only g w w') : Fr (fun k => k = g) w w' :=
  ⟨h.os, h.tape, h.output, by rw [h.size]; exact Nat.le_refl _, fun k _ hn => h.block k hn⟩

theorem RowAt.fr {S : Nat → Prop} {k : IntKind} {E : TypeId} {w w' : World} {g N n : Nat} {f : Nat → Nat} (h : RowAt k E w g N n f) (hf : Fr S w w') (hs : ¬ S g) : RowAt k E w' g N n f := h.block (hf.block g h.lt hs)

/-- A heap ahead of the move: the half in use (i) holds anything, the other one the words (f, st). -/
structure PreIn (w : World) (hb : Nat) (X : Nat → Prop) (sz : Nat) (tm : Int) (n : Nat) (f : Nat → Nat) (st : Nat → Bool) (i : Nat) (v u v' u' : Value) (nJ : Nat) (fJ : Nat → Nat) (m : Nat) (s : Nat → Nat) (m' : Nat) (s' : Nat → Nat) : Prop where
  i1 : i ≤ 1
  a : HalfAt 22 134 w hb (heapCells i v u v' u' sz tm) (2 * i) v u nJ fJ m s
  b : HalfAt 22 134 w hb (heapCells i v u v' u' sz tm) (2 * (1 - i)) v' u' n f m' s'
  far : ∀ g, (v.ownBlock = some g ∨ u.ownBlock = some g) → ¬ (v'.ownBlock = some g ∨ u'.ownBlock = some g)
  markF : ∀ p, st p = marks m' s' p
  sbF : ∀ i, i < m' → s' i < 18446744073709551616
  mlF : m' ≤ 16385
  good : Good n f st
  fb : ∀ i, i < n → f i < 18446744073709551616
  nz : n ≤ sz
  z : sz ≤ 1048576
  xs : ∀ k, X k ↔ (foot hb v u k ∨ v'.ownBlock = some k ∨ u'.ownBlock = some k)

theorem PreIn.begin {w w2 : World} {hb : Nat} {X : Nat → Prop} {sz : Nat} {tm : Int} {n : Nat} {f : Nat → Nat} {st : Nat → Bool} {i : Nat} {v u v' u' : Value} {nJ : Nat} {fJ : Nat → Nat} {m : Nat} {s : Nat → Nat} {m' : Nat} {s' : Nat → Nat} (h : PreIn w hb X sz tm n f st i v u v' u' nJ fJ m s m' s')
    {v2 u2 : Value} (ha : HalfAt 22 134 w2 hb (heapCells i v2 u2 v' u' sz tm) (2 * i) v2 u2 1 (fun _ => 0) 0 s) (hu : Stays w.heap.size u u2) (hv : Stays w.heap.size v v2) (hf : Fr (foot hb v u) w w2) :
    ∃ X2, Mov w2 hb X2 sz tm n f st MS.zero i ∧ Grows w.heap.size X X2 ∧ Fr X w w2 := by
  have key : ∀ k, (v2.ownBlock = some k ∨ u2.ownBlock = some k) → (v.ownBlock = some k ∨ u.ownBlock = some k) ∨ w.heap.size ≤ k := fun k e => by
    rcases e with e | e
    · rcases hv k e with e | e
      · exact .inl (.inl e)
      · exact .inr e
    · rcases hu k e with e | e
      · exact .inl (.inr e)
      · exact .inr e
  have hnot : ∀ k, (v'.ownBlock = some k ∨ u'.ownBlock = some k) → ¬ foot hb v u k := fun k e e2 => by
    rcases e2 with e2 | e2
    · subst e2
      rcases e with e | e
      · exact h.b.nv e
      · exact h.b.nu e
    · exact h.far k e2 e
  have hb2 : HalfAt 22 134 w2 hb (heapCells i v2 u2 v' u' sz tm) (2 * (1 - i)) v' u' n f m' s' :=
    ⟨ha.blk, (heapCells_other h.i1 _ _ _ _ _ _).1, (heapCells_other h.i1 _ _ _ _ _ _).2, h.b.ov.fr hf fun k hk => hnot k (.inl hk), h.b.ou.fr hf fun k hk => hnot k (.inr hk), h.b.nv, h.b.nu, h.b.nn⟩
  refine ⟨fun k => foot hb v2 u2 k ∨ v'.ownBlock = some k ∨ u'.ownBlock = some k, ⟨v2, u2, v', u', 0, s, m', s', h.i1, ha, hb2.congr (fun k _ => (fwd_not rfl).symm), fun k e e2 => ?_, fun p => by simp [marks, MS.zero], fun i hi => by omega, by decide, h.markF, h.sbF, h.mlF, h.good, h.fb, MSok.zero _ _ _, h.nz, h.z, fun _ => Iff.rfl⟩, fun k hk => ?_, hf.mono fun k _ e => (h.xs k).2 (.inl e)⟩
  · rcases key k e with e | e
    · exact h.far k e e2
    · rcases e2 with e2 | e2
      · have := h.b.ov.block_lt e2; omega
      · have := h.b.ou.block_lt e2; omega
  · rcases hk with (e | e) | e
    · exact .inl ((h.xs k).2 (.inl (.inl e)))
    · rcases key k e with e | e
      · exact .inl ((h.xs k).2 (.inl (.inr e)))
      · exact .inr e
    · exact .inl ((h.xs k).2 (.inr e))

theorem Mov.base {w : World} {hb : Nat} {X : Nat → Prop} {sz : Nat} {tm : Int} {n : Nat} {f : Nat → Nat} {st : Nat → Bool} {S : MS} {i : Nat} (h : Mov w hb X sz tm n f st S i) : Good n f st ∧ (∀ i, i < n → f i < 18446744073709551616) ∧ n ≤ 1048576 ∧ MSok n f st S ∧ i ≤ 1 := by
  obtain ⟨v, u, v', u', m, s, m', s', h⟩ := h
  exact ⟨h.good, h.fb, Nat.le_trans h.nz h.z, h.ok, h.i1⟩

/-- Behind a move the heap is one. -/
theorem Mov.heap {w : World} {hb : Nat} {X : Nat → Prop} {sz : Nat} {tm : Int} {n : Nat} {f : Nat → Nat} {st : Nat → Bool} {S : MS} {i : Nat} (h : Mov w hb X sz tm n f st S i) : HeapAt w hb X sz tm S.n S.f S.st := by
  obtain ⟨v, u, v', u', m, s, m', s', h⟩ := h
  exact ⟨i, v, u, v', u', m, s, n, _, m', s', h.i1, h.a, h.b, h.far, h.markT, h.sbT, h.mlT, h.ok.good, h.ok.fb, Nat.le_trans (h.ok.le h.good) h.nz, h.z, h.xs⟩

theorem MSok.roots {n : Nat} {f : Nat → Nat} {st : Nat → Bool} (hg : Good n f st) (hfb : ∀ i, i < n → f i < 18446744073709551616) (r : Nat → Nat) : ∀ k, MSok n f st (rootsS f st r k MS.zero)
  | 0 => MSok.zero _ _ _
  | k + 1 => (MSok.roots hg hfb r k).mv hg hfb _

/-- One step of going through the copies. -/
theorem scan_step {n : Nat} {f : Nat → Nat} {st : Nat → Bool} {S : MS} {d place : Nat} (h : MSok n f st S) (hg : Good n f st) (hfb : ∀ i, i < n → f i < 18446744073709551616) (hn : n ≤ 1048576) (hd : n + 1 ≤ d + place) (hlt : place < S.n) (hst : S.st place = true) :
    ∃ d', n + 1 ≤ d' + (place + hLen (S.f place)) ∧ scanS f st d place S = scanS f st d' (place + hLen (S.f place)) (fieldsS f st (place + 1) (hTag (S.f place)) S) ∧
      (∀ k, k < hTag (S.f place) → S.st (place + 1 + k) = false) ∧ place + 1 + hTag (S.f place) ≤ S.n ∧
      (place + hLen (S.f place) = (fieldsS f st (place + 1) (hTag (S.f place)) S).n ∨ (fieldsS f st (place + 1) (hTag (S.f place)) S).st (place + hLen (S.f place)) = true) ∧ place + hLen (S.f place) ≤ (fieldsS f st (place + 1) (hTag (S.f place)) S).n := by
  have hle := h.le hg
  have hin := (h.good.inn place hst).2
  have hL : hLen (S.f place) = 1 + hTag (S.f place) + hRaw (S.f place) := rfl
  have hfs : ∀ k, k < hTag (S.f place) → S.st (place + 1 + k) = false := fun k hk => h.good.field (i := k) hst (by omega)
  have hok := h.fields hg hfb hn (first := place + 1) (count := hTag (S.f place)) (by omega) hfs _ (Nat.le_refl _)
  obtain ⟨i1, i2, i3⟩ := fieldsS_keeps f st (place + 1) S (hTag (S.f place))
  have hst2 : (fieldsS f st (place + 1) (hTag (S.f place)) S).st place = true := by rw [i2 _ hlt]; exact hst
  have hf2 : (fieldsS f st (place + 1) (hTag (S.f place)) S).f place = S.f place := i3 place hlt (by omega)
  have hnx := hok.next place hst2
  rw [hf2] at hnx
  have hin2 := (hok.good.inn place hst2).2
  rw [hf2] at hin2
  obtain ⟨d', rfl⟩ : ∃ d', d = d' + 1 := ⟨d - 1, by omega⟩
  refine ⟨d', by omega, ?_, hfs, by omega, hnx, hin2⟩
  show (if place < S.n then _ else _) = _
  rw [if_pos hlt]

theorem scan_done {f : Nat → Nat} {st : Nat → Bool} {S : MS} {d place : Nat} (h : S.n ≤ place) : scanS f st d place S = S := by
  cases d with
  | zero => rfl
  | succ d => show (if place < S.n then _ else _) = _; rw [if_neg (by omega)]

/-- What a move keeps beside the heap: its two pointers, a new list, the roots. -/
structure Beside (w wr : World) (hb : Nat) (X Y : Nat → Prop) (i gm l : Nat) (mf : Nat → Nat) : Prop where
  grows : Grows w.heap.size X Y
  fr : Fr X w wr
  nb : ¬ Y w.heap.size
  ng : ¬ Y gm
  lb : w.heap.size < wr.heap.size
  ge : w.heap.size ≤ gm
  ne : gm ≠ w.heap.size
  c0 : wr.cell? ⟨w.heap.size, 0, none⟩ = some (.pointer (some ⟨hb, 2 * (1 - i), none⟩))
  c1 : wr.cell? ⟨w.heap.size, 1, none⟩ = some (.pointer (some ⟨hb, 2 * i, none⟩))
  row : RowAt .u64 22 wr gm l l mf

theorem Beside.next {w wr w2 : World} {hb : Nat} {X Y Z : Nat → Prop} {i gm l : Nat} {mf : Nat → Nat} (h : Beside w wr hb X Y i gm l mf) (hG : Grows wr.heap.size Y Z) (hF : Fr Y wr w2) : Beside w w2 hb X Z i gm l mf := by
  have hg := h.row.lt
  have hs := h.fr.size
  refine ⟨h.grows.trans hG hs, h.fr.trans hF fun k hk e => ?_, fun e => ?_, fun e => ?_, Nat.lt_of_lt_of_le h.lb hF.size, h.ge, h.ne, (hF.cell h.lb h.nb).trans h.c0, (hF.cell h.lb h.nb).trans h.c1, h.row.fr hF h.ng⟩
  · rcases h.grows k e with e | e
    · exact e
    · omega
  · rcases hG _ e with e | e
    · exact h.nb e
    · have := h.lb; omega
  · rcases hG _ e with e | e
    · exact h.ng e
    · omega

theorem Beside.put {w wr : World} {hb : Nat} {X Y : Nat → Prop} {i gm l : Nat} {mf : Nat → Nat} (h : Beside w wr hb X Y i gm l mf) {k : Nat} (hk : k < l) (y : Nat) : Beside w (wr.setCell ⟨gm, k, none⟩ (.int .u64 y)) hb X Y i gm l (upd mf k y) := by
  have hF : Fr (fun k => k = gm) wr (wr.setCell ⟨gm, k, none⟩ (.int .u64 y)) := Fr.setCell (S := fun k => k = gm) (Fr.refl _ _) (fun _ => rfl) _ _
  exact ⟨h.grows, h.fr.trans hF fun j hj e => by have := h.ge; omega, h.nb, h.ng, Nat.lt_of_lt_of_le h.lb hF.size, h.ge, h.ne, (hF.cell h.lb (fun e => h.ne e.symm)).trans h.c0, (hF.cell h.lb (fun e => h.ne e.symm)).trans h.c1, h.row.set hk y⟩

theorem wrap_i64 (x : Nat) (h : x ≤ 1048577) : IntKind.i64.wrap (x : Int) = (x : Int) := by
  simp only [IntKind.wrap, IntKind.bits, IntKind.signed]
  simp
  omega

set_option maxRecDepth 20000 in
set_option maxHeartbeats 8000000 in
theorem mall_any (w : World) (hb : Nat) (X : Nat → Prop) (sz : Nat) (tm : Int) (n : Nat) (f : Nat → Nat) (st : Nat → Bool) (i : Nat) (v u v' u' : Value) (nJ : Nat) (fJ : Nat → Nat) (m : Nat) (s : Nat → Nat) (m' : Nat) (s' : Nat → Nat) (h : PreIn w hb X sz tm n f st i v u v' u' nJ fJ m s m' s')
    (ao : Option Addr) (l cap : Nat) (r : Nat → Nat) (hr : l = 0 ∨ ∃ b off, ao = some ⟨b, off, none⟩ ∧ b < w.heap.size ∧ ¬ X b ∧ ∀ k, k < l → w.cell? ⟨b, off + k, none⟩ = some (.int .u64 (r k))) (hrl : ∀ k, k < l → r k < 18446744073709551616) (hl : l ≤ 17592186044416) (hcap : l ≤ cap) (hcap2 : cap ≤ 9223372036854775807) :
    Calls Try.prog 93 #[.agg #[.pointer (some ⟨hb, 2 * (1 - i), none⟩), .pointer (some ⟨hb, 2 * i, none⟩)], .slice ao l cap] w fun e w' => ∃ gm X2, e = .returned (.slice (some ⟨gm, 0, none⟩) l l) ∧ w.heap.size ≤ gm ∧ RowAt .u64 22 w' gm l l (fun k => mvV f st (r k) (rootsS f st r k MS.zero)) ∧ ¬ X2 gm ∧ Mov w' hb X2 sz tm n f st (collS n f st r l) i ∧ Grows w.heap.size X X2 ∧ Fr X w w' := by
  have hfr0 : Fr (fun _ => False) w (w.alloc (.cells #[.pointer (some ⟨hb, 2 * (1 - i), none⟩), .pointer (some ⟨hb, 2 * i, none⟩)] 139)) := (Fr.refl _ _).alloc _
  have hP1 : PreIn (w.alloc (.cells #[.pointer (some ⟨hb, 2 * (1 - i), none⟩), .pointer (some ⟨hb, 2 * i, none⟩)] 139)) hb X sz tm n f st i v u v' u' nJ fJ m s m' s' :=
    ⟨h.i1, h.a.alloc _, h.b.alloc _, h.far, h.markF, h.sbF, h.mlF, h.good, h.fb, h.nz, h.z, h.xs⟩
  have hXlt : ∀ k, X k → k < w.heap.size := fun k hk => by
    rcases (h.xs k).1 hk with (e | e | e) | e | e
    · rw [e]; exact h.a.lt
    · exact h.a.ov.block_lt e
    · exact h.a.ou.block_lt e
    · exact h.b.ov.block_lt e
    · exact h.b.ou.block_lt e
  have KE := empty_any 134 _ hb _ (2 * i) v u nJ fJ m s hP1.a
  have HP1 := hide hP1
  have HXL := hide hXlt
  have HR := hide hr
  have HRL := hide hrl
  have hgd := h.good
  have hfb := h.fb
  have hn : n ≤ 1048576 := Nat.le_trans h.nz h.z
  have HOR := hide (MSok.roots hgd hfb r)
  have HGD := hide hgd
  have HFB := hide hfb
  have hi1 := h.i1
  clear hP1 hXlt hr hrl h hfr0 hgd hfb
  go_enter Try.func93, Try.ntmps93
  go_wp2_with (first
    | (go_at_call 84; refine KE.mono ?_; rintro e w1 ⟨rfl, v2, u2, ha2, su2, sv2, hf2⟩; rw [heapCells_v hi1, heapCells_u hi1] at ha2; obtain ⟨X1, M1, G1, F1⟩ := HP1.out.begin ha2 su2 sv2 hf2; have hM1 := hide M1; have hG1 := hide G1; have hF1 := hide F1; clear M1 G1 F1 ha2 su2 sv2 hf2)
    | (at_make; refine wpList_mkW rfl _ _ rfl .i64 .i64 _ _ l rfl rfl (by omega) (by omega) (by omega) ?_; intro w2 R2 F2))
  have hX1 : ∀ k, X1 k → X k ∨ w.heap.size + 1 ≤ k := fun k hk => by
    rcases hG1.out k hk with e | e
    · exact .inl e
    · simp at e
      exact .inr e
  have hb2 : Beside w w2 hb X X1 i w1.heap.size l (fun _ => 0) := by
    have hs1 := hF1.out.size
    simp at hs1
    have hnb : ¬ X1 w.heap.size := fun e => by
      rcases hX1 _ e with e | e
      · have := HXL.out _ e; omega
      · omega
    have hc := mcells w (.pointer (some ⟨hb, 2 * (1 - i), none⟩)) (.pointer (some ⟨hb, 2 * i, none⟩)) 139
    have hnx : ¬ X w.heap.size := fun e => by have := HXL.out _ e; omega
    refine ⟨fun k hk => ?_, ?_, hnb, fun e => by have := hM1.out.lt e; omega, ?_, by omega, by omega, ?_, ?_, R2⟩
    · rcases hX1 k hk with e | e
      · exact .inl e
      · exact .inr (by omega)
    · exact (Fr.trans ((Fr.refl X w).alloc _) hF1.out (fun _ _ e => e)).trans F2 (fun _ _ e => e.elim)
    · have := F2.size; omega
    · exact (F2.cell (by omega) (fun e => e)).trans ((hF1.out.cell (by simp) hnx).trans hc.1)
    · exact (F2.cell (by omega) (fun e => e)).trans ((hF1.out.cell (by simp) hnx).trans hc.2)
  have hM2 := hM1.out.fr F2 (fun _ _ e => e)
  have HB2 := hide hb2
  have HM2 := hide hM2
  clear hb2 hM2 hX1 hM1 hG1 hF1 R2 F2
  generalize w1.heap.size = gm at *
  go_loopw [18] (fun a wr => ∃ (k : Nat) (Y : Nat → Prop) (mf : Nat → Nat), k ≤ l ∧ a = .int .i64 (k : Int) ∧ Mov wr hb Y sz tm n f st (rootsS f st r k MS.zero) i ∧ Beside w wr hb X Y i gm l mf ∧ ∀ j, j < k → mf j = mvV f st (r j) (rootsS f st r j MS.zero)) (fun a _ => l - (intOf a).toNat)
  case atStart => exact ⟨0, X1, _, Nat.zero_le _, rfl, HM2.out, HB2.out, fun j hj => by omega⟩
  case round =>
    clear HB2 HM2
    obtain ⟨k, Y, mf, hk, rfl, hM, hB, hmf⟩ := hrel
    by_cases hlt : k < l
    · obtain ⟨b, off, rfl, hbl, hbX, hcs⟩ : ∃ b off, ao = some ⟨b, off, none⟩ ∧ b < w.heap.size ∧ ¬ X b ∧ ∀ k, k < l → w.cell? ⟨b, off + k, none⟩ = some (.int .u64 (r k)) := by
        rcases HR.out with h0 | h0
        · omega
        · exact h0
      have hcell := (hB.fr.cell (o := off + k) hbl hbX).trans (hcs k hlt)
      have hc0 := hB.c0
      have hc1 := hB.c1
      have KW := word_any wr hb Y sz tm n f st _ i (r k) hM (HRL.out k hlt)
      have hS : rootsS f st r (k + 1) MS.zero = mvS f st (r k) (rootsS f st r k MS.zero) := rfl
      rw [← hS] at KW
      have HB := hide hB
      have HMF := hide hmf
      obtain ⟨y, hyE⟩ : ∃ y, y = mvV f st (r k) (rootsS f st r k MS.zero) := ⟨_, rfl⟩
      rw [← hyE] at KW
      have HY := hide hyE
      clear hcs hB hM hmf hS hyE
      obtain ⟨x, hxE⟩ : ∃ x, x = r k := ⟨_, rfl⟩
      rw [← hxE] at hcell KW
      clear hxE
      go_wp2_with (go_at_call 121; refine KW.mono ?_; rintro e w3 ⟨rfl, Y3, M3, G3, F3⟩; have B3 := HB.out.next G3 F3; have hcl := B3.row.cell hlt; have hfz := B3.row.free k; have HB3 := hide (B3.put hlt y); have HM3 := hide (M3.fr (T := fun k => k = gm) (Fr.setCell (S := fun k => k = gm) (Fr.refl _ _) (fun _ => rfl) k (.int .u64 y)) (fun j hj e => B3.ng (by rw [← e]; exact hj))); clear B3 M3 G3 F3)
      refine ⟨⟨k + 1, Y3, _, by omega, by go_num, HM3.out, HB3.out, fun j hj => ?_⟩, ?_⟩
      · by_cases e : j = k
        · subst e
          rw [upd_same]
          exact HY.out
        · rw [upd_other e]
          exact HMF.out j (by omega)
      · simp [intOf]
        omega
    · have hkl : l = k := by omega
      subst hkl
      have hokl := HOR.out l
      have HM := hide hM
      have HB := hide hB
      have HMF := hide hmf
      clear hM hB hmf hlt hk
      go_wp2
      go_loopw [8] (fun a wr => ∃ (pl d : Nat) (Y : Nat → Prop) (S : MS), a = .int .i64 (pl : Int) ∧ Mov wr hb Y sz tm n f st S i ∧ Beside w wr hb X Y i gm l mf ∧ scanS f st d pl S = collS n f st r l ∧ n + 1 ≤ d + pl ∧ (pl = S.n ∨ S.st pl = true) ∧ pl ≤ S.n) (fun a _ => n + 1 - (intOf a).toNat)
      case atStart =>
        refine ⟨1, n, Y, _, rfl, HM.out, HB.out, rfl, by omega, ?_, hokl.good.pos⟩
        rcases hokl.first with e | e
        · exact .inl e.symm
        · exact .inr e
      case round =>
        clear HM HB Y
        obtain ⟨pl, d, Y, S, rfl, hM, hB, hsc, hd, hpl, hple⟩ := hrel
        have hok := hM.base.2.2.2.1
        have hSn := hok.le HGD.out
        have HM := hide hM
        have hc0 := hB.c0
        have hc1 := hB.c1
        obtain ⟨v, u, v', u', m, s, m', s', hI⟩ := hM
        have hcv := hI.a.cellv
        by_cases hlt : pl < S.n
        · have hst : S.st pl = true := by
            rcases hpl with e | e
            · omega
            · exact e
          obtain ⟨d', e1, e2, e3, e4, e5, e6⟩ := scan_step hok HGD.out HFB.out hn hd hlt hst
          obtain ⟨g, cap3, rfl, hc31, hc32, hcl⟩ := hI.a.ov.rd hlt
          have hxl := hok.fb pl hlt
          obtain ⟨x, hxE⟩ : ∃ x, x = S.f pl := ⟨_, rfl⟩
          rw [← hxE] at hcl hxl e1 e2 e3 e4 e5 e6
          obtain ⟨p1, hp1, hp1I⟩ : ∃ p1, p1 = pl + 1 ∧ (pl : Int) + 1 = (p1 : Int) := ⟨_, rfl, by omega⟩
          rw [← hp1] at e2 e3 e4 e5 e6
          have KF := fun w1 (hf : Fr (fun _ => False) wr w1) => mfields_any w1 hb Y sz tm n f st S i p1 (hTag x) (HM.out.fr hf (fun _ _ e => e)) e4 e3
          have hwr := wrap_i64 p1 (by omega)
          have KT := fun w => tagged_any x w hxl
          have KW := fun w => words_num x w hxl
          have hL1 : 1 ≤ hLen x := by unfold hLen; omega
          have hL2 : hLen x ≤ 33554432 := by
            have := hTag_lt x
            have := hRaw_lt x
            unfold hLen
            omega
          rw [e2] at hsc
          have HSC := hide hsc
          have HB := hide hB
          have E5 := hide e5
          have E6 := hide e6
          obtain ⟨S2, hS2⟩ : ∃ S2, S2 = fieldsS f st p1 (hTag x) S := ⟨_, rfl⟩
          rw [← hS2] at KF HSC E5 E6
          clear hI hxE hp1 hsc hB e5 e6 e2 e3 e4 hok hst hpl hS2 hxl
          go_wp2
          go_region_with (first
            | (go_at_call 76; refine (KT _).mono ?_; rintro e w4 ⟨rfl, hw⟩; replace hw := hw.symm; subst hw)
            | (go_at_call 122; refine (KF _ ?_).mono ?_; exact (Fr.refl _ _).drew; rintro e w3 ⟨rfl, Y3, M3, G3, F3⟩))
          all_goals
            have B3 := hide (HB.out.next G3 (Fr.trans ((Fr.refl _ _).drew) F3 (fun _ _ e => e)))
            have HM3 := hide M3
            clear M3 G3 F3
            go_wp2_with (go_at_call 89; refine (KW _).mono ?_; rintro e w5 ⟨rfl, hw⟩; replace hw := hw.symm; subst hw)
            refine ⟨⟨pl + hLen x, d', Y3, S2, by go_num, HM3.out, B3.out, HSC.out, e1, E5.out, E6.out⟩, ?_⟩
            simp [intOf]
            omega
        · have hpe : S.n ≤ pl := by omega
          have hfin : S = collS n f st r l := by rw [← hsc, scan_done hpe]
          obtain ⟨ao3, cap3, rfl⟩ := hI.a.ov.shape
          have HB := hide hB
          have HFIN := hide hfin
          clear hI hsc hB hok hpl hfin hd
          go_wp2
          go_ret
          refine ⟨gm, Y, rfl, HB.out.ge, HB.out.row.congr HMF.out, HB.out.ng, ?_, HB.out.grows, HB.out.fr⟩
          rw [← HFIN.out]
          exact HM.out

theorem HeapIn.flip {w : World} {hb : Nat} {X : Nat → Prop} {sz : Nat} {tm : Int} {n : Nat} {f : Nat → Nat} {st : Nat → Bool} {i : Nat} {v u v' u' : Value} {m : Nat} {s : Nat → Nat} {n' : Nat} {f' : Nat → Nat} {m' : Nat} {s' : Nat → Nat} (h : HeapIn w hb X sz tm n f st i v u v' u' m s n' f' m' s') :
    PreIn ((w.setCell ⟨hb, 4, none⟩ (.int .i64 ((1 - i : Nat) : Int))).setCell ⟨hb, 6, none⟩ (.int .i64 (tm + 1))) hb X sz (tm + 1) n f st (1 - i) v' u' v u n' f' m' s' m s ∧ Fr X w ((w.setCell ⟨hb, 4, none⟩ (.int .i64 ((1 - i : Nat) : Int))).setCell ⟨hb, 6, none⟩ (.int .i64 (tm + 1))) := by
  have hXb : X hb := (h.xs hb).2 (.inl (.inl rfl))
  have hF : Fr (fun k => k = hb) w ((w.setCell ⟨hb, 4, none⟩ (.int .i64 ((1 - i : Nat) : Int))).setCell ⟨hb, 6, none⟩ (.int .i64 (tm + 1))) :=
    Fr.setCell (Fr.setCell (S := fun k => k = hb) (Fr.refl _ _) (fun _ => rfl) _ _) (fun _ => rfl) _ _
  have hblk : ((w.setCell ⟨hb, 4, none⟩ (.int .i64 ((1 - i : Nat) : Int))).setCell ⟨hb, 6, none⟩ (.int .i64 (tm + 1))).heap[hb]? = some (.cells (heapCells (1 - i) v' u' v u sz (tm + 1)) 134 (0, 0)) := by
    rw [heap_setCell_same _ hb 6 _ 134 _ (heap_setCell_same w hb 4 _ 134 _ h.a.blk)]
    rcases Nat.le_one_iff_eq_zero_or_eq_one.1 h.i1 with e | e <;> subst e <;> rfl
  have hx : ∀ (a : Value), a.ownBlock ≠ some hb → ∀ g, a.ownBlock = some g → ¬ g = hb := fun a ha g hg e => ha (by rw [← e]; exact hg)
  refine ⟨⟨by have := h.i1; omega, ⟨hblk, ?_, ?_, h.b.ov.fr hF (hx _ h.b.nv), h.b.ou.fr hF (hx _ h.b.nu), h.b.nv, h.b.nu, h.b.nn⟩, ⟨hblk, ?_, ?_, h.a.ov.fr hF (hx _ h.a.nv), h.a.ou.fr hF (hx _ h.a.nu), h.a.nv, h.a.nu, h.a.nn⟩, fun g e e2 => h.far g e2 e, h.marked, h.sb, h.ml, h.good, h.fb, h.nz, h.z, fun k => ?_⟩, hF.mono fun k _ e => by rw [e]; exact hXb⟩
  · rcases Nat.le_one_iff_eq_zero_or_eq_one.1 h.i1 with e | e <;> subst e <;> rfl
  · rcases Nat.le_one_iff_eq_zero_or_eq_one.1 h.i1 with e | e <;> subst e <;> rfl
  · rcases Nat.le_one_iff_eq_zero_or_eq_one.1 h.i1 with e | e <;> subst e <;> rfl
  · rcases Nat.le_one_iff_eq_zero_or_eq_one.1 h.i1 with e | e <;> subst e <;> rfl
  · rw [h.xs k]
    unfold foot
    constructor
    · rintro ((e | e) | e)
      · exact .inl (.inl e)
      · exact .inr e
      · exact .inl (.inr e)
    · rintro ((e | e) | e)
      · exact .inl (.inl e)
      · exact .inr e
      · exact .inl (.inr e)

theorem PreIn.fr {T : Nat → Prop} {w w2 : World} {hb : Nat} {X : Nat → Prop} {sz : Nat} {tm : Int} {n : Nat} {f : Nat → Nat} {st : Nat → Bool} {i : Nat} {v u v' u' : Value} {nJ : Nat} {fJ : Nat → Nat} {m : Nat} {s : Nat → Nat} {m' : Nat} {s' : Nat → Nat} (h : PreIn w hb X sz tm n f st i v u v' u' nJ fJ m s m' s') (hf : Fr T w w2) (hs : ∀ k, X k → ¬ T k) : PreIn w2 hb X sz tm n f st i v u v' u' nJ fJ m s m' s' :=
  ⟨h.i1, h.a.fr hf fun k hk => hs k ((h.xs k).2 (.inl hk)), h.b.fr hf fun k hk => hs k ((h.xs k).2 (by
    rcases hk with e | e
    · exact .inl (.inl e)
    · exact .inr e)), h.far, h.markF, h.sbF, h.mlF, h.good, h.fb, h.nz, h.z, h.xs⟩

set_option maxHeartbeats 4000000 in
theorem collect_any (w : World) (hb : Nat) (X : Nat → Prop) (sz : Nat) (tm : Int) (n : Nat) (f : Nat → Nat) (st : Nat → Bool) (ao : Option Addr) (l cap : Nat) (r : Nat → Nat) (h : HeapAt w hb X sz tm n f st) (htm1 : 0 ≤ tm) (htm2 : tm ≤ 4611686018427387904)
    (hr : l = 0 ∨ ∃ b off, ao = some ⟨b, off, none⟩ ∧ b < w.heap.size ∧ ¬ X b ∧ ∀ k, k < l → w.cell? ⟨b, off + k, none⟩ = some (.int .u64 (r k))) (hrl : ∀ k, k < l → r k < 18446744073709551616) (hl : l ≤ 17592186044416) (hcap : l ≤ cap) (hcap2 : cap ≤ 9223372036854775807) :
    Calls Try.prog 55 #[.pointer (some ⟨hb, 0, none⟩), .slice ao l cap] w fun e w' => ∃ gm X2, e = .returned (.slice (some ⟨gm, 0, none⟩) l l) ∧ w.heap.size ≤ gm ∧ RowAt .u64 22 w' gm l l (fun k => mvV f st (r k) (rootsS f st r k MS.zero)) ∧ ¬ X2 gm ∧ HeapAt w' hb X2 sz (tm + 1) (collS n f st r l).n (collS n f st r l).f (collS n f st r l).st ∧ Grows w.heap.size X X2 ∧ Fr X w w' := by
  obtain ⟨i, v, u, v', u', m, s, n', f', m', s', h⟩ := h
  have hXb : X hb := (h.xs hb).2 (.inl (.inl rfl))
  have K1 := now_any w hb i v u v' u' sz tm h.i1 h.a.blk
  have hc6 : w.cell? ⟨hb, 6, none⟩ = some (.int .i64 tm) := by
    rw [cell_of_row w hb 6 _ _ _ h.a.blk]
    rcases Nat.le_one_iff_eq_zero_or_eq_one.1 h.i1 with e | e <;> subst e <;> rfl
  have hc4 : w.cell? ⟨hb, 4, none⟩ = some (.int .i64 (i : Int)) := by
    rw [cell_of_row w hb 4 _ _ _ h.a.blk]
    rcases Nat.le_one_iff_eq_zero_or_eq_one.1 h.i1 with e | e <;> subst e <;> rfl
  have hf4 := h.a.free 4
  have hf6 := h.a.free 6
  have HFL := hide (fun (q : Nat) => (h.fr (S := fun _ => False) ((Fr.refl _ _).drewN q) (fun _ _ e => e)).flip)
  have KN := fun (q : Nat) => now_any _ hb (1 - i) v' u' v u sz (tm + 1) (by omega) ((h.fr (S := fun _ => False) ((Fr.refl _ _).drewN q) (fun _ _ e => e)).flip.1.a.blk)
  have hXl := hide (fun k hk => h.lt (k := k) hk)
  have hi := h.i1
  have HR := hide hr
  clear h hr
  rcases Nat.le_one_iff_eq_zero_or_eq_one.1 hi with e | e
  · subst e
    have hc4' : w.cell? ⟨hb, 4, none⟩ = some (.int .i64 0) := hc4
    have KN' : ∀ q, Calls Try.prog 60 #[.pointer (some ⟨hb, 0, none⟩)] (((w.drewN q).setCell ⟨hb, 4, none⟩ (.int .i64 1)).setCell ⟨hb, 6, none⟩ (.int .i64 (tm + 1))) fun e w' => e = .returned (.pointer (some ⟨hb, 2, none⟩)) ∧ ∃ n, w' = (((w.drewN q).setCell ⟨hb, 4, none⟩ (.int .i64 1)).setCell ⟨hb, 6, none⟩ (.int .i64 (tm + 1))).drewN n := KN
    have K1' : Calls Try.prog 60 #[.pointer (some ⟨hb, 0, none⟩)] w fun e w' => e = .returned (.pointer (some ⟨hb, 0, none⟩)) ∧ ∃ n, w' = w.drewN n := K1
    have KA : ∀ (W : World), PreIn W hb X sz (tm + 1) n f st 1 v' u' v u n' f' m' s' m s → Fr X w W → Calls Try.prog 93 #[.agg #[.pointer (some ⟨hb, 0, none⟩), .pointer (some ⟨hb, 2, none⟩)], .slice ao l cap] W fun e w' => ∃ gm X2, e = .returned (.slice (some ⟨gm, 0, none⟩) l l) ∧ W.heap.size ≤ gm ∧ RowAt .u64 22 w' gm l l (fun k => mvV f st (r k) (rootsS f st r k MS.zero)) ∧ ¬ X2 gm ∧ Mov w' hb X2 sz (tm + 1) n f st (collS n f st r l) 1 ∧ Grows W.heap.size X X2 ∧ Fr X W w' := fun W hP hF =>
      mall_any W hb X sz (tm + 1) n f st 1 v' u' v u n' f' m' s' m s hP ao l cap r (by
        rcases HR.out with e | ⟨b, off, e1, e2, e3, e4⟩
        · exact .inl e
        · exact .inr ⟨b, off, e1, Nat.lt_of_lt_of_le e2 hF.size, e3, fun k hk => (hF.cell e2 e3).trans (e4 k hk)⟩) hrl hl hcap hcap2
    clear K1 KN hc4
    go_enter Try.func55, Try.ntmps55
    go_wp2_with (first
      | (go_at_call 60; refine K1'.mono ?_; rintro e w1 ⟨rfl, q1, rfl⟩; clear K1')
      | (go_at_call 60; refine (KN' _).mono ?_; rintro e w1 ⟨rfl, q2, rfl⟩)
      | (go_at_call 93; refine (KA _ ((HFL.out q1).1.fr (T := fun _ => False) (((Fr.refl _ _).drewN q2).alloc _) (fun _ _ e => e)) (((Fr.trans ((Fr.refl X w).drewN q1) (HFL.out q1).2 (fun _ _ e => e)).drewN q2).alloc _)).mono ?_; rintro e w3 ⟨gm, X2, rfl, hge, hrow, hng, hM, hG, hF⟩))
    have hwf : Fr X w _ := ((Fr.trans ((Fr.refl X w).drewN q1) (HFL.out q1).2 (fun _ _ e => e)).drewN q2).alloc (.cells #[.pointer (some ⟨hb, 0, none⟩), .pointer (some ⟨hb, 2, none⟩)] 139)
    go_ret
    refine ⟨gm, X2, rfl, Nat.le_trans hwf.size hge, hrow, hng, hM.heap, fun k hk => ?_, hwf.trans hF (fun _ _ e => e)⟩
    rcases hG k hk with e | e
    · exact .inl e
    · exact .inr (Nat.le_trans hwf.size e)
  · subst e
    have hc4' : w.cell? ⟨hb, 4, none⟩ = some (.int .i64 1) := hc4
    have KN' : ∀ q, Calls Try.prog 60 #[.pointer (some ⟨hb, 0, none⟩)] (((w.drewN q).setCell ⟨hb, 4, none⟩ (.int .i64 0)).setCell ⟨hb, 6, none⟩ (.int .i64 (tm + 1))) fun e w' => e = .returned (.pointer (some ⟨hb, 0, none⟩)) ∧ ∃ n, w' = (((w.drewN q).setCell ⟨hb, 4, none⟩ (.int .i64 0)).setCell ⟨hb, 6, none⟩ (.int .i64 (tm + 1))).drewN n := KN
    have K1' : Calls Try.prog 60 #[.pointer (some ⟨hb, 0, none⟩)] w fun e w' => e = .returned (.pointer (some ⟨hb, 2, none⟩)) ∧ ∃ n, w' = w.drewN n := K1
    have KA : ∀ (W : World), PreIn W hb X sz (tm + 1) n f st 0 v' u' v u n' f' m' s' m s → Fr X w W → Calls Try.prog 93 #[.agg #[.pointer (some ⟨hb, 2, none⟩), .pointer (some ⟨hb, 0, none⟩)], .slice ao l cap] W fun e w' => ∃ gm X2, e = .returned (.slice (some ⟨gm, 0, none⟩) l l) ∧ W.heap.size ≤ gm ∧ RowAt .u64 22 w' gm l l (fun k => mvV f st (r k) (rootsS f st r k MS.zero)) ∧ ¬ X2 gm ∧ Mov w' hb X2 sz (tm + 1) n f st (collS n f st r l) 0 ∧ Grows W.heap.size X X2 ∧ Fr X W w' := fun W hP hF =>
      mall_any W hb X sz (tm + 1) n f st 0 v' u' v u n' f' m' s' m s hP ao l cap r (by
        rcases HR.out with e | ⟨b, off, e1, e2, e3, e4⟩
        · exact .inl e
        · exact .inr ⟨b, off, e1, Nat.lt_of_lt_of_le e2 hF.size, e3, fun k hk => (hF.cell e2 e3).trans (e4 k hk)⟩) hrl hl hcap hcap2
    clear K1 KN hc4
    go_enter Try.func55, Try.ntmps55
    go_wp2_with (first
      | (go_at_call 60; refine K1'.mono ?_; rintro e w1 ⟨rfl, q1, rfl⟩; clear K1')
      | (go_at_call 60; refine (KN' _).mono ?_; rintro e w1 ⟨rfl, q2, rfl⟩)
      | (go_at_call 93; refine (KA _ ((HFL.out q1).1.fr (T := fun _ => False) (((Fr.refl _ _).drewN q2).alloc _) (fun _ _ e => e)) (((Fr.trans ((Fr.refl X w).drewN q1) (HFL.out q1).2 (fun _ _ e => e)).drewN q2).alloc _)).mono ?_; rintro e w3 ⟨gm, X2, rfl, hge, hrow, hng, hM, hG, hF⟩))
    have hwf : Fr X w _ := ((Fr.trans ((Fr.refl X w).drewN q1) (HFL.out q1).2 (fun _ _ e => e)).drewN q2).alloc (.cells #[.pointer (some ⟨hb, 2, none⟩), .pointer (some ⟨hb, 0, none⟩)] 139)
    go_ret
    refine ⟨gm, X2, rfl, Nat.le_trans hwf.size hge, hrow, hng, hM.heap, fun k hk => ?_, hwf.trans hF (fun _ _ e => e)⟩
    rcases hG k hk with e | e
    · exact .inl e
    · exact .inr (Nat.le_trans hwf.size e)

end Go.Proofs.Ytchdfenickjiiaa
