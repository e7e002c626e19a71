/-
  What is proved here: plain facts on moving objects from one row of words to another; no walk.
-/
import Derived.Test.YtfeofdeffmnbkaaHHeap3
namespace Go.Proofs.Ytfeofdeffmnbkaa
open Go Go.RowKit

/-- The words of the objects before k that b names. -/
def sumL (f : Nat → Nat) (b : Nat → Bool) : Nat → Nat
  | 0 => 0
  | k + 1 => sumL f b k + if b k = true then hLen (f k) else 0

theorem sumL_le {n : Nat} {f : Nat → Nat} {st : Nat → Bool} (h : Good n f st) {b : Nat → Bool} (hb : ∀ p, b p = true → st p = true) : ∀ (k e : Nat), 1 ≤ e → (∀ p, p < k → b p = true → p + hLen (f p) ≤ e) → sumL f b k + 1 ≤ e
  | 0, e, h1, _ => by simpa [sumL] using h1
  | k + 1, e, h1, he => by
    unfold sumL
    by_cases c : b k = true
    · rw [if_pos c]
      have i1 := sumL_le h hb k k (h.inn k (hb k c)).1 fun p hp hbp => h.apart p k (hb p hbp) (hb k c) hp
      have := he k (by omega) c
      omega
    · rw [if_neg c]
      exact sumL_le h hb k e h1 fun p hp hbp => he p (by omega) hbp

theorem sumL_congr {f : Nat → Nat} {b c : Nat → Bool} : ∀ {k : Nat}, (∀ p, p < k → b p = c p) → sumL f b k = sumL f c k
  | 0, _ => rfl
  | k + 1, h => by
    unfold sumL
    rw [h k (by omega), sumL_congr (fun p hp => h p (by omega))]
theorem sumL_more {f : Nat → Nat} {b c : Nat → Bool} {p : Nat} (hb : b p = false) (hc : c p = true) (hs : ∀ q, q ≠ p → c q = b q) : ∀ {k : Nat}, p < k → sumL f c k = sumL f b k + hLen (f p)
  | 0, h => by omega
  | k + 1, h => by
    unfold sumL
    by_cases e : p = k
    · subst e
      rw [hb, hc, sumL_congr (fun q hq => hs q (by omega))]
      simp
    · rw [sumL_more hb hc hs (k := k) (by omega), hs k (fun x => e x.symm)]
      omega

/-- What is moved: where each object went (0: it did not), and the words and places on the other side. -/
structure MS where
  fw : Nat → Nat
  n : Nat
  f : Nat → Nat
  st : Nat → Bool

def MS.zero : MS := ⟨fun _ => 0, 1, fun _ => 0, fun _ => false⟩
/-- The object at p is copied. -/
def MS.copy (f : Nat → Nat) (p : Nat) (S : MS) : MS := ⟨upd S.fw p S.n, S.n + hLen (f p), fun i => if i < S.n then S.f i else f (p + (i - S.n)), also S.st S.n⟩
/-- A word is moved: what lies there then; and what it has become. -/
def mvS (f : Nat → Nat) (st : Nat → Bool) (x : Nat) (S : MS) : MS := if isPtr st x = true ∧ S.fw (x / 4) = 0 then S.copy f (x / 4) else S
def mvV (f : Nat → Nat) (st : Nat → Bool) (x : Nat) (S : MS) : Nat := if isPtr st x = true then 4 * (mvS f st x S).fw (x / 4) else x
/-- The words that are left behind: where an object went stands in its header's place. -/
def fwd (f : Nat → Nat) (st : Nat → Bool) (fw : Nat → Nat) (i : Nat) : Nat := if st i = true ∧ fw i ≠ 0 then 4 * fw i else f i

structure MSok (n : Nat) (f : Nat → Nat) (st : Nat → Bool) (S : MS) : Prop where
  sum : S.n = 1 + sumL f (fun p => S.fw p != 0) n
  went : ∀ p, S.fw p ≠ 0 → st p = true ∧ S.fw p < S.n ∧ S.st (S.fw p) = true ∧ S.f (S.fw p) = f p
  good : Good S.n S.f S.st
  fb : ∀ i, i < S.n → S.f i < 18446744073709551616
  next : ∀ p, S.st p = true → p + hLen (S.f p) = S.n ∨ S.st (p + hLen (S.f p)) = true
  first : S.n = 1 ∨ S.st 1 = true

theorem MSok.zero (n : Nat) (f : Nat → Nat) (st : Nat → Bool) : MSok n f st MS.zero := by
  refine ⟨?_, fun p h => absurd rfl h, Good.one, (fun i _ => by show (0 : Nat) < _; decide), (fun p h => by cases h), .inl rfl⟩
  have : ∀ k, sumL f (fun p => MS.zero.fw p != 0) k = 0 := fun k => by
    induction k with
    | zero => rfl
    | succ k ih => unfold sumL; rw [ih]; simp [MS.zero]
  rw [this]
  rfl

theorem MSok.le {n : Nat} {f : Nat → Nat} {st : Nat → Bool} {S : MS} (h : MSok n f st S) (hg : Good n f st) : S.n ≤ n := by
  have := sumL_le hg (b := fun p => S.fw p != 0) (fun p hp => (h.went p (by simpa using hp)).1) n n hg.pos (fun p hp hb => (hg.inn p (h.went p (by simpa using hb)).1).2)
  have := h.sum
  omega

theorem mvS_copy {f : Nat → Nat} {st : Nat → Bool} {x : Nat} {S : MS} (h : isPtr st x = true) (h0 : S.fw (x / 4) = 0) : mvS f st x S = S.copy f (x / 4) := by unfold mvS; rw [if_pos ⟨h, h0⟩]
theorem mvS_same {f : Nat → Nat} {st : Nat → Bool} {x : Nat} {S : MS} (h : S.fw (x / 4) ≠ 0) : mvS f st x S = S := by unfold mvS; rw [if_neg (fun e => h e.2)]
theorem mvS_no {f : Nat → Nat} {st : Nat → Bool} {x : Nat} {S : MS} (h : isPtr st x = false) : mvS f st x S = S := by unfold mvS; rw [if_neg (fun e => by rw [h] at e; cases e.1)]
theorem mvV_copy {f : Nat → Nat} {st : Nat → Bool} {x : Nat} {S : MS} (h : isPtr st x = true) (h0 : S.fw (x / 4) = 0) : mvV f st x S = 4 * S.n := by
  unfold mvV
  rw [if_pos h, mvS_copy h h0]
  simp [MS.copy, upd_same]
theorem mvV_same {f : Nat → Nat} {st : Nat → Bool} {x : Nat} {S : MS} (h : isPtr st x = true) (h0 : S.fw (x / 4) ≠ 0) : mvV f st x S = 4 * S.fw (x / 4) := by
  unfold mvV
  rw [if_pos h, mvS_same h0]
theorem mvV_no {f : Nat → Nat} {st : Nat → Bool} {x : Nat} {S : MS} (h : isPtr st x = false) : mvV f st x S = x := by
  unfold mvV
  rw [if_neg (by rw [h]; decide)]

theorem copy_old {f : Nat → Nat} {p : Nat} {S : MS} {i : Nat} (h : i < S.n) : (S.copy f p).f i = S.f i := by simp [MS.copy, h]
theorem copy_new {f : Nat → Nat} {p : Nat} {S : MS} (i : Nat) : (S.copy f p).f (S.n + i) = f (p + i) := by
  show (if S.n + i < S.n then S.f (S.n + i) else f (p + (S.n + i - S.n))) = _
  rw [if_neg (by omega), Nat.add_sub_cancel_left]

theorem MSok.copy {n : Nat} {f : Nat → Nat} {st : Nat → Bool} {S : MS} (h : MSok n f st S) (hg : Good n f st) (hfb : ∀ i, i < n → f i < 18446744073709551616) {p : Nat} (hp : st p = true) (h0 : S.fw p = 0) : MSok n f st (S.copy f p) := by
  have hpn := (hg.inn p hp).2
  have hpos := h.good.pos
  have hlen : 1 ≤ hLen (f p) := by unfold hLen; omega
  have en : (S.copy f p).n = S.n + hLen (f p) := rfl
  have hnew : (S.copy f p).f S.n = f p := by have := copy_new (f := f) (p := p) (S := S) 0; simpa using this
  have key : ∀ q, (S.copy f p).st q = true → q = S.n ∨ (S.st q = true ∧ q < S.n) := fun q e => by
    by_cases hq : q = S.n
    · exact .inl hq
    · have : (S.copy f p).st q = S.st q := also_old hq
      rw [this] at e
      exact .inr ⟨e, h.good.lt e⟩
  have hst : ∀ q, S.st q = true → (S.copy f p).st q = true := fun q e => by
    show also S.st S.n q = true
    unfold also
    rw [e]
    rfl
  refine ⟨?_, fun q hq => ?_, ⟨by rw [en]; omega, fun q e => ?_, fun q e => ?_, fun q q' e e' hlt => ?_⟩, fun i hi => ?_, fun q e => ?_, ?_⟩
  · rw [en, h.sum, sumL_more (b := fun q => S.fw q != 0) (c := fun q => (S.copy f p).fw q != 0) (p := p) (by simp [h0]) (by simp [MS.copy, upd_same]; omega) (fun q hq => by simp [MS.copy, upd_other hq]) (hg.lt hp)]
    omega
  · by_cases e : q = p
    · subst e
      have : (S.copy f q).fw q = S.n := upd_same _ _ _
      rw [this, hnew]
      exact ⟨hp, by rw [en]; omega, also_new _ _, rfl⟩
    · have e1 : (S.copy f p).fw q = S.fw q := upd_other e
      rw [e1] at hq ⊢
      obtain ⟨w1, w2, w3, w4⟩ := h.went q hq
      exact ⟨w1, by rw [en]; omega, hst _ w3, by rw [copy_old w2]; exact w4⟩
  · rcases key q e with rfl | ⟨e1, e2⟩
    · rw [hnew, en]; omega
    · rw [copy_old e2, en]; have := h.good.inn q e1; omega
  · rcases key q e with rfl | ⟨e1, e2⟩
    · rw [hnew]; exact hg.tag p hp
    · rw [copy_old e2]; exact h.good.tag q e1
  · rcases key q e with rfl | ⟨e1, e2⟩
    · rcases key q' e' with rfl | ⟨e3, e4⟩ <;> omega
    · rw [copy_old e2]
      rcases key q' e' with rfl | ⟨e3, e4⟩
      · exact (h.good.inn q e1).2
      · exact h.good.apart q q' e1 e3 hlt
  · by_cases e : i < S.n
    · rw [copy_old e]; exact h.fb i e
    · rw [show i = S.n + (i - S.n) by omega, copy_new]
      rw [en] at hi
      exact hfb _ (by omega)
  · rcases key q e with rfl | ⟨e1, e2⟩
    · rw [hnew]; exact .inl rfl
    · rw [copy_old e2]
      rcases h.next q e1 with e3 | e3
      · exact .inr (by rw [e3]; exact also_new _ _)
      · exact .inr (hst _ e3)
  · rcases h.first with e | e
    · exact .inr (by rw [← e]; exact also_new _ _)
    · exact .inr (hst _ e)

theorem MSok.mv {n : Nat} {f : Nat → Nat} {st : Nat → Bool} {S : MS} (h : MSok n f st S) (hg : Good n f st) (hfb : ∀ i, i < n → f i < 18446744073709551616) (x : Nat) : MSok n f st (mvS f st x S) := by
  unfold mvS
  by_cases c : isPtr st x = true ∧ S.fw (x / 4) = 0
  · rw [if_pos c]
    exact h.copy hg hfb (isPtr_st c.1).1 c.2
  · rw [if_neg c]
    exact h
theorem mvS_grows {f : Nat → Nat} {st : Nat → Bool} {x : Nat} {S : MS} : S.n ≤ (mvS f st x S).n ∧ (∀ i, i < S.n → (mvS f st x S).f i = S.f i) ∧ (∀ p, S.st p = true → (mvS f st x S).st p = true) ∧ (∀ p, S.fw p ≠ 0 → (mvS f st x S).fw p = S.fw p) := by
  unfold mvS
  by_cases c : isPtr st x = true ∧ S.fw (x / 4) = 0
  · rw [if_pos c]
    refine ⟨by show S.n ≤ S.n + _; omega, fun i hi => copy_old hi, fun p e => ?_, fun p hp => ?_⟩
    · show also S.st S.n p = true
      unfold also
      rw [e]
      rfl
    · exact upd_other (fun e => hp (by rw [e]; exact c.2))
  · rw [if_neg c]
    exact ⟨Nat.le_refl _, fun _ _ => rfl, fun _ e => e, fun _ _ => rfl⟩

/-- A word that is moved is a word of 64 bits. -/
theorem mvV_lt {n : Nat} {f : Nat → Nat} {st : Nat → Bool} {S : MS} (h : MSok n f st S) (hg : Good n f st) (hfb : ∀ i, i < n → f i < 18446744073709551616) (hn : n ≤ 1048576) {x : Nat} (hx : x < 18446744073709551616) : mvV f st x S < 18446744073709551616 := by
  unfold mvV
  by_cases c : isPtr st x = true
  · rw [if_pos c]
    have h2 := h.mv hg hfb x
    have := h2.le hg
    by_cases e : (mvS f st x S).fw (x / 4) = 0
    · omega
    · have := (h2.went _ e).2.1
      omega
  · rw [if_neg c]; exact hx

/-- A word on the other side is set, where no header is. -/
def MS.set (S : MS) (i x : Nat) : MS := ⟨S.fw, S.n, upd S.f i x, S.st⟩
theorem MSok.set {n : Nat} {f : Nat → Nat} {st : Nat → Bool} {S : MS} (h : MSok n f st S) {i x : Nat} (hi : S.st i = false) (hx : x < 18446744073709551616) : MSok n f st (S.set i x) := by
  have key : ∀ q, S.st q = true → upd S.f i x q = S.f q := fun q e => upd_other (fun ee => by rw [ee, hi] at e; cases e)
  refine ⟨h.sum, fun p hp => ?_, h.good.set hi, fun j hj => ?_, fun p e => ?_, h.first⟩
  · obtain ⟨w1, w2, w3, w4⟩ := h.went p hp
    exact ⟨w1, w2, w3, by show upd S.f i x (S.fw p) = _; rw [key _ w3]; exact w4⟩
  · show upd S.f i x j < _
    by_cases e : j = i
    · rw [e, upd_same]; exact hx
    · rw [upd_other e]; exact h.fb j hj
  · show p + hLen (upd S.f i x p) = S.n ∨ S.st (p + hLen (upd S.f i x p)) = true
    rw [key p e]
    exact h.next p e

/-- The tagged fields from 'first' on are moved, one behind the other. -/
def fieldsS (f : Nat → Nat) (st : Nat → Bool) (first : Nat) : Nat → MS → MS
  | 0, S => S
  | k + 1, S => ((mvS f st ((fieldsS f st first k S).f (first + k)) (fieldsS f st first k S)).set (first + k) (mvV f st ((fieldsS f st first k S).f (first + k)) (fieldsS f st first k S)))
/-- All roots are moved. -/
def rootsS (f : Nat → Nat) (st : Nat → Bool) (r : Nat → Nat) : Nat → MS → MS
  | 0, S => S
  | k + 1, S => mvS f st (r k) (rootsS f st r k S)
/-- The objects on the other side are gone through, from a place on. -/
def scanS (f : Nat → Nat) (st : Nat → Bool) : Nat → Nat → MS → MS
  | 0, _, S => S
  | d + 1, place, S => if place < S.n then scanS f st d (place + hLen (S.f place)) (fieldsS f st (place + 1) (hTag (S.f place)) S) else S
/-- A collection. -/
def collS (n : Nat) (f : Nat → Nat) (st : Nat → Bool) (r : Nat → Nat) (l : Nat) : MS := scanS f st n 1 (rootsS f st r l MS.zero)

end Go.Proofs.Ytfeofdeffmnbkaa
