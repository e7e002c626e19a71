/-
  What is proved here: plain facts on a collection: what can be reached is the same graph on the other side; no walk.
-/
import Derived.Test.YtfeofdeffmnbkaaHAll
namespace Go.Proofs.Ytfeofdeffmnbkaa
open Go Go.RowKit

/-- What a word has become, once all is moved. -/
def mvF (st : Nat → Bool) (S : MS) (x : Nat) : Nat := if isPtr st x = true then 4 * S.fw (x / 4) else x
/-- A word whose object was moved, if it has one. -/
def Sure (st : Nat → Bool) (S : MS) (x : Nat) : Prop := isPtr st x = true → S.fw (x / 4) ≠ 0

theorem mvV_eq (f : Nat → Nat) (st : Nat → Bool) (x : Nat) (S : MS) : mvV f st x S = mvF st (mvS f st x S) x := rfl
theorem sure_mv (f : Nat → Nat) (st : Nat → Bool) (x : Nat) (S : MS) (hn : S.n ≠ 0) : Sure st (mvS f st x S) x := fun hp => by
  by_cases h0 : S.fw (x / 4) = 0
  · rw [mvS_copy hp h0]
    show upd S.fw (x / 4) S.n (x / 4) ≠ 0
    rw [upd_same]
    exact hn
  · rw [mvS_same h0]
    exact h0
/-- Where an object went stays. -/
def Later (S T : MS) : Prop := ∀ p, S.fw p ≠ 0 → T.fw p = S.fw p
theorem Later.refl (S : MS) : Later S S := fun _ _ => rfl
theorem Later.trans {S T U : MS} (h : Later S T) (k : Later T U) : Later S U := fun p hp => by rw [k p (by rw [h p hp]; exact hp), h p hp]
theorem later_mv (f : Nat → Nat) (st : Nat → Bool) (x : Nat) (S : MS) : Later S (mvS f st x S) := fun p hp => mvS_grows.2.2.2 p hp
theorem Sure.later {st : Nat → Bool} {S T : MS} {x : Nat} (h : Sure st S x) (k : Later S T) : Sure st T x ∧ mvF st T x = mvF st S x := by
  refine ⟨fun hp => by rw [k _ (h hp)]; exact h hp, ?_⟩
  unfold mvF
  by_cases hp : isPtr st x = true
  · rw [if_pos hp, if_pos hp, k _ (h hp)]
  · rw [if_neg hp, if_neg hp]

/-- The graph on the other side, as far as fields ahead of F are gone through; R: objects that may be met. -/
structure Gr (f : Nat → Nat) (st : Nat → Bool) (R : Nat → Prop) (S : MS) (F : Nat) : Prop where
  inj : ∀ p q, S.fw p ≠ 0 → S.fw p = S.fw q → p = q
  org : ∀ q, S.st q = true → ∃ p, S.fw p = q ∧ q ≠ 0
  sub : ∀ p, S.fw p ≠ 0 → R p
  raw : ∀ p, S.fw p ≠ 0 → ∀ j, j < hLen (f p) → (j = 0 ∨ hTag (f p) < j) → S.f (S.fw p + j) = f (p + j)
  old : ∀ p, S.fw p ≠ 0 → ∀ j, 1 ≤ j → j ≤ hTag (f p) → F ≤ S.fw p + j → S.f (S.fw p + j) = f (p + j)
  new : ∀ p, S.fw p ≠ 0 → ∀ j, 1 ≤ j → j ≤ hTag (f p) → S.fw p + j < F → S.f (S.fw p + j) = mvF st S (f (p + j)) ∧ Sure st S (f (p + j))

theorem Gr.zero (f : Nat → Nat) (st : Nat → Bool) (R : Nat → Prop) (F : Nat) : Gr f st R MS.zero F :=
  ⟨fun _ _ h => absurd rfl h, (fun _ h => by cases h), fun _ h => absurd rfl h, fun _ h => absurd rfl h, fun _ h => absurd rfl h, fun _ h => absurd rfl h⟩

theorem Gr.mv {n : Nat} {f : Nat → Nat} {st : Nat → Bool} {R : Nat → Prop} {S : MS} {F : Nat} (h : Gr f st R S F) (ho : MSok n f st S) {x : Nat} (hF : F ≤ S.n) (hR : isPtr st x = true → R (x / 4)) : Gr f st R (mvS f st x S) F := by
  by_cases c : isPtr st x = true ∧ S.fw (x / 4) = 0
  · obtain ⟨c1, c2⟩ := c
    have hl := later_mv f st x S
    rw [mvS_copy c1 c2] at hl ⊢
    have hpos := ho.good.pos
    have e1 : ∀ p, p ≠ x / 4 → (S.copy f (x / 4)).fw p = S.fw p := fun p hp => upd_other hp
    have e2 : (S.copy f (x / 4)).fw (x / 4) = S.n := upd_same _ _ _
    have inside : ∀ p, S.fw p ≠ 0 → ∀ j, j < hLen (f p) → S.fw p + j < S.n := fun p hp j hj => by
      obtain ⟨_, _, w3, w4⟩ := ho.went p hp
      have := (ho.good.inn _ w3).2
      rw [w4] at this
      omega
    have hT : ∀ p j, j ≤ hTag (f p) → j < hLen (f p) := fun p j hj => by unfold hLen; omega
    refine ⟨fun p q hp e => ?_, fun q hq => ?_, fun p hp => ?_, fun p hp j hj hc => ?_, fun p hp j h1 h2 h3 => ?_, fun p hp j h1 h2 h3 => ?_⟩
    · by_cases ep : p = x / 4
      · by_cases eq : q = x / 4
        · rw [ep, eq]
        · rw [ep, e2, e1 q eq] at e
          have := (ho.went q (by omega)).2.1
          omega
      · by_cases eq : q = x / 4
        · rw [eq, e2, e1 p ep] at e
          rw [e1 p ep] at hp
          have := (ho.went p hp).2.1
          omega
        · rw [e1 p ep, e1 q eq] at e
          rw [e1 p ep] at hp
          exact h.inj p q hp e
    · by_cases eq : q = S.n
      · exact ⟨x / 4, by rw [e2, eq], by omega⟩
      · have hq' : S.st q = true := by
          have : (S.copy f (x / 4)).st q = S.st q := also_old eq
          rw [← this]; exact hq
        obtain ⟨p, e3, e4⟩ := h.org q hq'
        exact ⟨p, by rw [e1 p (fun e => by rw [e, c2] at e3; exact e4 e3.symm)]; exact e3, e4⟩
    · by_cases ep : p = x / 4
      · rw [ep]; exact hR c1
      · rw [e1 p ep] at hp; exact h.sub p hp
    · by_cases ep : p = x / 4
      · rw [ep, e2, copy_new]
      · rw [e1 p ep] at hp ⊢
        rw [copy_old (inside p hp j hj)]
        exact h.raw p hp j hj hc
    · by_cases ep : p = x / 4
      · rw [ep, e2, copy_new]
      · rw [e1 p ep] at hp h3 ⊢
        rw [copy_old (inside p hp j (hT p j h2))]
        exact h.old p hp j h1 h2 h3
    · by_cases ep : p = x / 4
      · rw [ep, e2] at h3; omega
      · rw [e1 p ep] at hp h3 ⊢
        rw [copy_old (inside p hp j (hT p j h2))]
        obtain ⟨n1, n2⟩ := h.new p hp j h1 h2 h3
        have := n2.later hl
        exact ⟨by rw [this.2]; exact n1, this.1⟩
  · have : mvS f st x S = S := by unfold mvS; rw [if_neg c]
    rw [this]
    exact h

/-- Two places of copies are one only if they are the same place of the same object. -/
theorem Gr.same {n : Nat} {f : Nat → Nat} {st : Nat → Bool} {R : Nat → Prop} {S : MS} {F : Nat} (h : Gr f st R S F) (ho : MSok n f st S) {p q i j : Nat} (hp : S.fw p ≠ 0) (hq : S.fw q ≠ 0) (hi : i < hLen (f p)) (hj : j < hLen (f q)) (e : S.fw p + i = S.fw q + j) : p = q ∧ i = j := by
  obtain ⟨_, _, w3, w4⟩ := ho.went p hp
  obtain ⟨_, _, z3, z4⟩ := ho.went q hq
  rcases Nat.lt_trichotomy (S.fw p) (S.fw q) with c | c | c
  · have := ho.good.apart _ _ w3 z3 c
    rw [w4] at this
    omega
  · exact ⟨h.inj p q hp c, by omega⟩
  · have := ho.good.apart _ _ z3 w3 c
    rw [z4] at this
    omega

/-- The field at F is gone through. -/
theorem Gr.put {n : Nat} {f : Nat → Nat} {st : Nat → Bool} {R : Nat → Prop} {S : MS} {F : Nat} (h : Gr f st R S F) (ho : MSok n f st S) {p j : Nat} (hp : S.fw p ≠ 0) (h1 : 1 ≤ j) (h2 : j ≤ hTag (f p)) (e : S.fw p + j = F) (hs : Sure st S (f (p + j))) : Gr f st R (S.set F (mvF st S (f (p + j)))) (F + 1) := by
  have hT : ∀ p j, j ≤ hTag (f p) → j < hLen (f p) := fun p j hj => by unfold hLen; omega
  refine ⟨h.inj, h.org, h.sub, fun q hq i hi hc => ?_, fun q hq i i1 i2 i3 => ?_, fun q hq i i1 i2 i3 => ?_⟩
  · show upd S.f F _ (S.fw q + i) = _
    rw [upd_other (fun e2 => by
      have := h.same ho hq hp hi (hT p j h2) (by rw [e2, e])
      rcases hc with c | c
      · omega
      · rw [this.1] at c; omega)]
    exact h.raw q hq i hi hc
  · show upd S.f F _ (S.fw q + i) = _
    have i3' : F + 1 ≤ S.fw q + i := i3
    rw [upd_other (by omega)]
    exact h.old q hq i i1 i2 (by omega)
  · show upd S.f F _ (S.fw q + i) = _ ∧ _
    by_cases e2 : S.fw q + i = F
    · have := h.same ho hq hp (hT q i i2) (hT p j h2) (by rw [e2, e])
      rw [e2, upd_same, this.1, this.2]
      exact ⟨rfl, hs⟩
    · have i3' : S.fw q + i < F + 1 := i3
      rw [upd_other e2]
      exact h.new q hq i i1 i2 (by omega)

/-- Places that are no tagged fields are passed by. -/
theorem Gr.skip {f : Nat → Nat} {st : Nat → Bool} {R : Nat → Prop} {S : MS} {F F' : Nat} (h : Gr f st R S F) (hF : F ≤ F') (hn : ∀ p, S.fw p ≠ 0 → ∀ j, 1 ≤ j → j ≤ hTag (f p) → ¬ (F ≤ S.fw p + j ∧ S.fw p + j < F')) : Gr f st R S F' := by
  refine ⟨h.inj, h.org, h.sub, h.raw, fun p hp j h1 h2 h3 => h.old p hp j h1 h2 (by omega), fun p hp j h1 h2 h3 => ?_⟩
  by_cases c : S.fw p + j < F
  · exact h.new p hp j h1 h2 c
  · exact absurd ⟨by omega, h3⟩ (hn p hp j h1 h2)

end Go.Proofs.Ytfeofdeffmnbkaa
