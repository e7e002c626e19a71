/-
  What is proved here: plain facts on a collection: what can be reached is the same graph on the other side; no walk. plain facts on a collection: all fields of all that was moved are gone through; no walk.
-/
import Derived.Test.YtchdfenickjiiaaYA
namespace Go.Proofs.Ytchdfenickjiiaa
open Go Go.RowKit

/-- What a word has become, once all is moved. -/
def mvF (st : Nat → Bool) (S : MS) (x : Nat) : Nat := if isPtr st x = true then 4 * S.fw (x / 4) else x

/-- A word whose object was moved, if it has one. -/
def Sure (st : Nat → Bool) (S : MS) (x : Nat) : Prop := isPtr st x = true → S.fw (x / 4) ≠ 0

theorem mvV_eq (f : Nat → Nat) (st : Nat → Bool) (x : Nat) (S : MS) : mvV f st x S = mvF st (mvS f st x S) x := rfl

theorem sure_mv (f : Nat → Nat) (st : Nat → Bool) (x : Nat) (S : MS) (hn : S.n ≠ 0) : Sure st (mvS f st x S) x := fun hp => by
  by_cases h0 : S.fw (x / 4) = 0
  · rw [mvS_copy hp h0]
    show upd S.fw (x / 4) S.n (x / 4) ≠ 0
    rw [upd_same]
    exact hn
  · rw [mvS_same h0]
    exact h0

/-- Where an object went stays. -/
def Later (S T : MS) : Prop := ∀ p, S.fw p ≠ 0 → T.fw p = S.fw p

theorem Later.refl (S : MS) : Later S S := fun _ _ => rfl

theorem Later.trans {S T U : MS} (h : Later S T) (k : Later T U) : Later S U := fun p hp => by rw [k p (by rw [h p hp]; exact hp), h p hp]

theorem later_mv (f : Nat → Nat) (st : Nat → Bool) (x : Nat) (S : MS) : Later S (mvS f st x S) := fun p hp => mvS_grows.2.2.2 p hp

theorem Sure.later {st : Nat → Bool} {S T : MS} {x : Nat} (h : Sure st S x) (k : Later S T) : Sure st T x ∧ mvF st T x = mvF st S x := by
  refine ⟨fun hp => by rw [k _ (h hp)]; exact h hp, ?_⟩
  unfold mvF
  by_cases hp : isPtr st x = true
  · rw [if_pos hp, if_pos hp, k _ (h hp)]
  · rw [if_neg hp, if_neg hp]

/-- The graph on the other side, as far as fields ahead of F are gone through; R: objects that may be met. -/
structure Gr (f : Nat → Nat) (st : Nat → Bool) (R : Nat → Prop) (S : MS) (F : Nat) : Prop where
  inj : ∀ p q, S.fw p ≠ 0 → S.fw p = S.fw q → p = q
  org : ∀ q, S.st q = true → ∃ p, S.fw p = q ∧ q ≠ 0
  sub : ∀ p, S.fw p ≠ 0 → R p
  raw : ∀ p, S.fw p ≠ 0 → ∀ j, j < hLen (f p) → (j = 0 ∨ hTag (f p) < j) → S.f (S.fw p + j) = f (p + j)
  old : ∀ p, S.fw p ≠ 0 → ∀ j, 1 ≤ j → j ≤ hTag (f p) → F ≤ S.fw p + j → S.f (S.fw p + j) = f (p + j)
  new : ∀ p, S.fw p ≠ 0 → ∀ j, 1 ≤ j → j ≤ hTag (f p) → S.fw p + j < F → S.f (S.fw p + j) = mvF st S (f (p + j)) ∧ Sure st S (f (p + j))

theorem Gr.zero (f : Nat → Nat) (st : Nat → Bool) (R : Nat → Prop) (F : Nat) : Gr f st R MS.zero F :=
  ⟨fun _ _ h => absurd rfl h, (fun _ h => by cases h), fun _ h => absurd rfl h, fun _ h => absurd rfl h, fun _ h => absurd rfl h, fun _ h => absurd rfl h⟩

theorem Gr.mv {n : Nat} {f : Nat → Nat} {st : Nat → Bool} {R : Nat → Prop} {S : MS} {F : Nat} (h : Gr f st R S F) (ho : MSok n f st S) {x : Nat} (hF : F ≤ S.n) (hR : isPtr st x = true → R (x / 4)) : Gr f st R (mvS f st x S) F := by
  by_cases c : isPtr st x = true ∧ S.fw (x / 4) = 0
  · obtain ⟨c1, c2⟩ := c
    have hl := later_mv f st x S
    rw [mvS_copy c1 c2] at hl ⊢
    have hpos := ho.good.pos
    have e1 : ∀ p, p ≠ x / 4 → (S.copy f (x / 4)).fw p = S.fw p := fun p hp => upd_other hp
    have e2 : (S.copy f (x / 4)).fw (x / 4) = S.n := upd_same _ _ _
    have inside : ∀ p, S.fw p ≠ 0 → ∀ j, j < hLen (f p) → S.fw p + j < S.n := fun p hp j hj => by
      obtain ⟨_, _, w3, w4⟩ := ho.went p hp
      have := (ho.good.inn _ w3).2
      rw [w4] at this
      omega
    have hT : ∀ p j, j ≤ hTag (f p) → j < hLen (f p) := fun p j hj => by unfold hLen; omega
    refine ⟨fun p q hp e => ?_, fun q hq => ?_, fun p hp => ?_, fun p hp j hj hc => ?_, fun p hp j h1 h2 h3 => ?_, fun p hp j h1 h2 h3 => ?_⟩
    · by_cases ep : p = x / 4
      · by_cases eq : q = x / 4
        · rw [ep, eq]
        · rw [ep, e2, e1 q eq] at e
          have := (ho.went q (by omega)).2.1
          omega
      · by_cases eq : q = x / 4
        · rw [eq, e2, e1 p ep] at e
          rw [e1 p ep] at hp
          have := (ho.went p hp).2.1
          omega
        · rw [e1 p ep, e1 q eq] at e
          rw [e1 p ep] at hp
          exact h.inj p q hp e
    · by_cases eq : q = S.n
      · exact ⟨x / 4, by rw [e2, eq], by omega⟩
      · have hq' : S.st q = true := by
          have : (S.copy f (x / 4)).st q = S.st q := also_old eq
          rw [← this]; exact hq
        obtain ⟨p, e3, e4⟩ := h.org q hq'
        exact ⟨p, by rw [e1 p (fun e => by rw [e, c2] at e3; exact e4 e3.symm)]; exact e3, e4⟩
    · by_cases ep : p = x / 4
      · rw [ep]; exact hR c1
      · rw [e1 p ep] at hp; exact h.sub p hp
    · by_cases ep : p = x / 4
      · rw [ep, e2, copy_new]
      · rw [e1 p ep] at hp ⊢
        rw [copy_old (inside p hp j hj)]
        exact h.raw p hp j hj hc
    · by_cases ep : p = x / 4
      · rw [ep, e2, copy_new]
      · rw [e1 p ep] at hp h3 ⊢
        rw [copy_old (inside p hp j (hT p j h2))]
        exact h.old p hp j h1 h2 h3
    · by_cases ep : p = x / 4
      · rw [ep, e2] at h3; omega
      · rw [e1 p ep] at hp h3 ⊢
        rw [copy_old (inside p hp j (hT p j h2))]
        obtain ⟨n1, n2⟩ := h.new p hp j h1 h2 h3
        have := n2.later hl
        exact ⟨by rw [this.2]; exact n1, this.1⟩
  · have : mvS f st x S = S := by unfold mvS; rw [if_neg c]
    rw [this]
    exact h

/-- Two places of copies are one only if they are the same place of the same object. -/
theorem Gr.same {n : Nat} {f : Nat → Nat} {st : Nat → Bool} {R : Nat → Prop} {S : MS} {F : Nat} (h : Gr f st R S F) (ho : MSok n f st S) {p q i j : Nat} (hp : S.fw p ≠ 0) (hq : S.fw q ≠ 0) (hi : i < hLen (f p)) (hj : j < hLen (f q)) (e : S.fw p + i = S.fw q + j) : p = q ∧ i = j := by
  obtain ⟨_, _, w3, w4⟩ := ho.went p hp
  obtain ⟨_, _, z3, z4⟩ := ho.went q hq
  rcases Nat.lt_trichotomy (S.fw p) (S.fw q) with c | c | c
  · have := ho.good.apart _ _ w3 z3 c
    rw [w4] at this
    omega
  · exact ⟨h.inj p q hp c, by omega⟩
  · have := ho.good.apart _ _ z3 w3 c
    rw [z4] at this
    omega

/-- The field at F is gone through. -/
theorem Gr.put {n : Nat} {f : Nat → Nat} {st : Nat → Bool} {R : Nat → Prop} {S : MS} {F : Nat} (h : Gr f st R S F) (ho : MSok n f st S) {p j : Nat} (hp : S.fw p ≠ 0) (h1 : 1 ≤ j) (h2 : j ≤ hTag (f p)) (e : S.fw p + j = F) (hs : Sure st S (f (p + j))) : Gr f st R (S.set F (mvF st S (f (p + j)))) (F + 1) := by
  have hT : ∀ p j, j ≤ hTag (f p) → j < hLen (f p) := fun p j hj => by unfold hLen; omega
  refine ⟨h.inj, h.org, h.sub, fun q hq i hi hc => ?_, fun q hq i i1 i2 i3 => ?_, fun q hq i i1 i2 i3 => ?_⟩
  · show upd S.f F _ (S.fw q + i) = _
    rw [upd_other (fun e2 => by
      have := h.same ho hq hp hi (hT p j h2) (by rw [e2, e])
      rcases hc with c | c
      · omega
      · rw [this.1] at c; omega)]
    exact h.raw q hq i hi hc
  · show upd S.f F _ (S.fw q + i) = _
    have i3' : F + 1 ≤ S.fw q + i := i3
    rw [upd_other (by omega)]
    exact h.old q hq i i1 i2 (by omega)
  · show upd S.f F _ (S.fw q + i) = _ ∧ _
    by_cases e2 : S.fw q + i = F
    · have := h.same ho hq hp (hT q i i2) (hT p j h2) (by rw [e2, e])
      rw [e2, upd_same, this.1, this.2]
      exact ⟨rfl, hs⟩
    · have i3' : S.fw q + i < F + 1 := i3
      rw [upd_other e2]
      exact h.new q hq i i1 i2 (by omega)

/-- Places that are no tagged fields are passed by. -/
theorem Gr.skip {f : Nat → Nat} {st : Nat → Bool} {R : Nat → Prop} {S : MS} {F F' : Nat} (h : Gr f st R S F) (hF : F ≤ F') (hn : ∀ p, S.fw p ≠ 0 → ∀ j, 1 ≤ j → j ≤ hTag (f p) → ¬ (F ≤ S.fw p + j ∧ S.fw p + j < F')) : Gr f st R S F' := by
  refine ⟨h.inj, h.org, h.sub, h.raw, fun p hp j h1 h2 h3 => h.old p hp j h1 h2 (by omega), fun p hp j h1 h2 h3 => ?_⟩
  by_cases c : S.fw p + j < F
  · exact h.new p hp j h1 h2 c
  · exact absurd ⟨by omega, h3⟩ (hn p hp j h1 h2)

theorem later_fields (f : Nat → Nat) (st : Nat → Bool) (first : Nat) (S : MS) : ∀ k, Later S (fieldsS f st first k S)
  | 0 => Later.refl _
  | k + 1 => (later_fields f st first S k).trans (fun p hp => by
    show (mvS _ _ _ _).fw p = _
    exact later_mv _ _ _ _ p hp)

theorem Gr.fields {n : Nat} {f : Nat → Nat} {st : Nat → Bool} {R : Nat → Prop} {S : MS} (hg : Good n f st) (hfb : ∀ i, i < n → f i < 18446744073709551616) (hn : n ≤ 1048576) (ho : MSok n f st S)
    (hR : ∀ p, R p → st p = true → ∀ j, 1 ≤ j → j ≤ hTag (f p) → isPtr st (f (p + j)) = true → R (f (p + j) / 4)) {p place : Nat} (hp : S.fw p = place) (hp0 : S.fw p ≠ 0) (h : Gr f st R S (place + 1)) : ∀ k, k ≤ hTag (f p) → Gr f st R (fieldsS f st (place + 1) k S) (place + 1 + k)
  | 0, _ => h
  | k + 1, hk => by
    have ih := Gr.fields hg hfb hn ho hR hp hp0 h k (by omega)
    obtain ⟨w1, w2, w3, w4⟩ := ho.went p hp0
    have hin := (ho.good.inn _ w3).2
    rw [w4, hp] at hin
    have hL : hLen (f p) = 1 + hTag (f p) + hRaw (f p) := rfl
    have hfs : ∀ j, j < hTag (f p) → S.st (place + 1 + j) = false := fun j hj => by
      have := ho.good.field (p := S.fw p) (i := j) w3 (by rw [w4]; omega)
      rw [hp] at this
      exact this
    have hok := ho.fields hg hfb hn (first := place + 1) (count := hTag (f p)) (by omega) hfs k (by omega)
    obtain ⟨i1, i2, i3⟩ := fieldsS_keeps f st (place + 1) S k
    have hl := later_fields f st (place + 1) S k p hp0
    have hpk : (fieldsS f st (place + 1) k S).fw p = place := by rw [hl, hp]
    have hpk0 : (fieldsS f st (place + 1) k S).fw p ≠ 0 := by rw [hl]; exact hp0
    have hx : (fieldsS f st (place + 1) k S).f (place + 1 + k) = f (p + (k + 1)) := by
      have := ih.old p hpk0 (k + 1) (by omega) (by omega) (by rw [hpk]; omega)
      rw [hpk] at this
      rw [show place + 1 + k = place + (k + 1) by omega]
      exact this
    have hmv := ih.mv hok (x := f (p + (k + 1))) (by omega) (fun c => hR p (ih.sub p hpk0) w1 (k + 1) (by omega) (by omega) c)
    have hok2 := hok.mv hg hfb (f (p + (k + 1)))
    have hl2 := later_mv f st (f (p + (k + 1))) (fieldsS f st (place + 1) k S) p hpk0
    have hput := hmv.put hok2 (p := p) (j := k + 1) (by rw [hl2]; exact hpk0) (by omega) (by omega) (by rw [hl2, hpk]; omega) (sure_mv f st _ _ (by have := hok.good.pos; omega))
    have e : fieldsS f st (place + 1) (k + 1) S = (mvS f st (f (p + (k + 1))) (fieldsS f st (place + 1) k S)).set (place + 1 + k) (mvF st (mvS f st (f (p + (k + 1))) (fieldsS f st (place + 1) k S)) (f (p + (k + 1)))) := by
      show MS.set _ _ _ = _
      rw [hx, mvV_eq]
    rw [e]
    exact hput

theorem scan_gr {n : Nat} {f : Nat → Nat} {st : Nat → Bool} {R : Nat → Prop} (hg : Good n f st) (hfb : ∀ i, i < n → f i < 18446744073709551616) (hn : n ≤ 1048576)
    (hR : ∀ p, R p → st p = true → ∀ j, 1 ≤ j → j ≤ hTag (f p) → isPtr st (f (p + j)) = true → R (f (p + j) / 4)) : ∀ (d P : Nat) (S : MS), MSok n f st S → Gr f st R S P → n + 1 ≤ d + P → (P = S.n ∨ S.st P = true) → P ≤ S.n →
      MSok n f st (scanS f st d P S) ∧ Gr f st R (scanS f st d P S) (scanS f st d P S).n ∧ Later S (scanS f st d P S)
  | 0, P, S, ho, h, hd, _, hle => by
    have := ho.le hg
    omega
  | d + 1, P, S, ho, h, hd, hb, hle => by
    by_cases hlt : P < S.n
    · have hst : S.st P = true := by
        rcases hb with e | e
        · omega
        · exact e
      obtain ⟨p, e1, e2⟩ := h.org P hst
      have hp0 : S.fw p ≠ 0 := by rw [e1]; exact e2
      obtain ⟨w1, w2, w3, w4⟩ := ho.went p hp0
      rw [e1] at w4
      have hL : hLen (f p) = 1 + hTag (f p) + hRaw (f p) := rfl
      have hin := (ho.good.inn P hst).2
      have hT : ∀ p j, j ≤ hTag (f p) → j < hLen (f p) := fun p j hj => by unfold hLen; omega
      have h1 : Gr f st R S (P + 1) := h.skip (by omega) fun q hq j j1 j2 c => by
        have := h.same ho hq hp0 (hT q j j2) (show 0 < hLen (f p) by omega) (by rw [e1]; omega)
        omega
      have h2 := Gr.fields hg hfb hn ho hR e1 hp0 h1 (hTag (f p)) (Nat.le_refl _)
      have hfs : ∀ j, j < hTag (f p) → S.st (P + 1 + j) = false := fun j hj => ho.good.field (p := P) (i := j) hst (by rw [w4]; omega)
      have ho2 := ho.fields hg hfb hn (first := P + 1) (count := hTag (f p)) (by rw [w4] at hin; omega) hfs _ (Nat.le_refl _)
      have hl := later_fields f st (P + 1) S (hTag (f p))
      have hp2 : (fieldsS f st (P + 1) (hTag (f p)) S).fw p = P := by rw [hl p hp0, e1]
      have hp20 : (fieldsS f st (P + 1) (hTag (f p)) S).fw p ≠ 0 := by rw [hp2]; exact e2
      have h3 : Gr f st R (fieldsS f st (P + 1) (hTag (f p)) S) (P + hLen (f p)) := h2.skip (by omega) fun q hq j j1 j2 c => by
        have := h2.same ho2 (j := (fieldsS f st (P + 1) (hTag (f p)) S).fw q + j - P) hq hp20 (hT q j j2) (by omega) (by rw [hp2]; omega)
        have e4 := this.2
        rw [this.1, hp2] at e4 c
        rw [this.1] at j2
        omega
      obtain ⟨d', s1, s2, s3, s4, s5, s6⟩ := scan_step (d := d + 1) ho hg hfb hn hd hlt hst
      rw [w4] at s1 s2 s5 s6
      have s2' : scanS f st (d + 1) P S = scanS f st d (P + hLen (f p)) (fieldsS f st (P + 1) (hTag (f p)) S) := by
        show (if P < S.n then _ else _) = _
        rw [if_pos hlt, w4]
      rw [s2']
      obtain ⟨r1, r2, r3⟩ := scan_gr hg hfb hn hR d _ _ ho2 h3 (by omega) s5 s6
      exact ⟨r1, r2, hl.trans r3⟩
    · rw [scan_done (by omega)]
      have : P = S.n := by omega
      rw [this] at h
      exact ⟨ho, h, Later.refl _⟩

theorem roots_gr {n : Nat} {f : Nat → Nat} {st : Nat → Bool} {R : Nat → Prop} (hg : Good n f st) (hfb : ∀ i, i < n → f i < 18446744073709551616) (r : Nat → Nat) : ∀ (l : Nat), (∀ k, k < l → isPtr st (r k) = true → R (r k / 4)) →
    Gr f st R (rootsS f st r l MS.zero) 1 ∧ ∀ k, k < l → Later (rootsS f st r (k + 1) MS.zero) (rootsS f st r l MS.zero)
  | 0, _ => ⟨Gr.zero _ _ _ _, fun k hk => by omega⟩
  | l + 1, hr => by
    obtain ⟨i1, i2⟩ := roots_gr hg hfb r l (fun k hk => hr k (by omega))
    have ho := MSok.roots hg hfb r l
    refine ⟨i1.mv ho ho.good.pos (hr l (by omega)), fun k hk => ?_⟩
    by_cases e : k = l
    · rw [e]; exact Later.refl _
    · exact (i2 k (by omega)).trans (later_mv _ _ _ _)

/-- A collection: the graph, and the roots. -/
theorem coll_gr {n : Nat} {f : Nat → Nat} {st : Nat → Bool} {R : Nat → Prop} (hg : Good n f st) (hfb : ∀ i, i < n → f i < 18446744073709551616) (hn : n ≤ 1048576)
    (hR : ∀ p, R p → st p = true → ∀ j, 1 ≤ j → j ≤ hTag (f p) → isPtr st (f (p + j)) = true → R (f (p + j) / 4)) (r : Nat → Nat) (l : Nat) (hr : ∀ k, k < l → isPtr st (r k) = true → R (r k / 4)) :
    MSok n f st (collS n f st r l) ∧ Gr f st R (collS n f st r l) (collS n f st r l).n ∧ ∀ k, k < l → Sure st (collS n f st r l) (r k) ∧ mvV f st (r k) (rootsS f st r k MS.zero) = mvF st (collS n f st r l) (r k) := by
  obtain ⟨i1, i2⟩ := roots_gr hg hfb r l hr
  have ho := MSok.roots hg hfb r l
  obtain ⟨s1, s2, s3⟩ := scan_gr hg hfb hn hR n 1 (rootsS f st r l MS.zero) ho i1 (by omega) (by
    rcases ho.first with e | e
    · exact .inl e.symm
    · exact .inr e) ho.good.pos
  refine ⟨s1, s2, fun k hk => ?_⟩
  have hs : Sure st (rootsS f st r (k + 1) MS.zero) (r k) := sure_mv f st (r k) _ (by have := (MSok.roots hg hfb r k).good.pos; omega)
  have h2 := hs.later ((i2 k hk).trans s3)
  exact ⟨h2.1, by rw [mvV_eq]; exact h2.2.symm⟩

end Go.Proofs.Ytchdfenickjiiaa
