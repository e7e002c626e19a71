/-
  What is proved here: plain facts on a collection: all fields of all that was moved are gone through; no walk.
-/
import Derived.Test.YtfeofdeffmnbkaaHGraph
namespace Go.Proofs.Ytfeofdeffmnbkaa
open Go Go.RowKit

theorem later_fields (f : Nat → Nat) (st : Nat → Bool) (first : Nat) (S : MS) : ∀ k, Later S (fieldsS f st first k S)
  | 0 => Later.refl _
  | k + 1 => (later_fields f st first S k).trans (fun p hp => by
    show (mvS _ _ _ _).fw p = _
    exact later_mv _ _ _ _ p hp)

theorem Gr.fields {n : Nat} {f : Nat → Nat} {st : Nat → Bool} {R : Nat → Prop} {S : MS} (hg : Good n f st) (hfb : ∀ i, i < n → f i < 18446744073709551616) (hn : n ≤ 1048576) (ho : MSok n f st S)
    (hR : ∀ p, R p → st p = true → ∀ j, 1 ≤ j → j ≤ hTag (f p) → isPtr st (f (p + j)) = true → R (f (p + j) / 4)) {p place : Nat} (hp : S.fw p = place) (hp0 : S.fw p ≠ 0) (h : Gr f st R S (place + 1)) : ∀ k, k ≤ hTag (f p) → Gr f st R (fieldsS f st (place + 1) k S) (place + 1 + k)
  | 0, _ => h
  | k + 1, hk => by
    have ih := Gr.fields hg hfb hn ho hR hp hp0 h k (by omega)
    obtain ⟨w1, w2, w3, w4⟩ := ho.went p hp0
    have hin := (ho.good.inn _ w3).2
    rw [w4, hp] at hin
    have hL : hLen (f p) = 1 + hTag (f p) + hRaw (f p) := rfl
    have hfs : ∀ j, j < hTag (f p) → S.st (place + 1 + j) = false := fun j hj => by
      have := ho.good.field (p := S.fw p) (i := j) w3 (by rw [w4]; omega)
      rw [hp] at this
      exact this
    have hok := ho.fields hg hfb hn (first := place + 1) (count := hTag (f p)) (by omega) hfs k (by omega)
    obtain ⟨i1, i2, i3⟩ := fieldsS_keeps f st (place + 1) S k
    have hl := later_fields f st (place + 1) S k p hp0
    have hpk : (fieldsS f st (place + 1) k S).fw p = place := by rw [hl, hp]
    have hpk0 : (fieldsS f st (place + 1) k S).fw p ≠ 0 := by rw [hl]; exact hp0
    have hx : (fieldsS f st (place + 1) k S).f (place + 1 + k) = f (p + (k + 1)) := by
      have := ih.old p hpk0 (k + 1) (by omega) (by omega) (by rw [hpk]; omega)
      rw [hpk] at this
      rw [show place + 1 + k = place + (k + 1) by omega]
      exact this
    have hmv := ih.mv hok (x := f (p + (k + 1))) (by omega) (fun c => hR p (ih.sub p hpk0) w1 (k + 1) (by omega) (by omega) c)
    have hok2 := hok.mv hg hfb (f (p + (k + 1)))
    have hl2 := later_mv f st (f (p + (k + 1))) (fieldsS f st (place + 1) k S) p hpk0
    have hput := hmv.put hok2 (p := p) (j := k + 1) (by rw [hl2]; exact hpk0) (by omega) (by omega) (by rw [hl2, hpk]; omega) (sure_mv f st _ _ (by have := hok.good.pos; omega))
    have e : fieldsS f st (place + 1) (k + 1) S = (mvS f st (f (p + (k + 1))) (fieldsS f st (place + 1) k S)).set (place + 1 + k) (mvF st (mvS f st (f (p + (k + 1))) (fieldsS f st (place + 1) k S)) (f (p + (k + 1)))) := by
      show MS.set _ _ _ = _
      rw [hx, mvV_eq]
    rw [e]
    exact hput

theorem scan_gr {n : Nat} {f : Nat → Nat} {st : Nat → Bool} {R : Nat → Prop} (hg : Good n f st) (hfb : ∀ i, i < n → f i < 18446744073709551616) (hn : n ≤ 1048576)
    (hR : ∀ p, R p → st p = true → ∀ j, 1 ≤ j → j ≤ hTag (f p) → isPtr st (f (p + j)) = true → R (f (p + j) / 4)) : ∀ (d P : Nat) (S : MS), MSok n f st S → Gr f st R S P → n + 1 ≤ d + P → (P = S.n ∨ S.st P = true) → P ≤ S.n →
      MSok n f st (scanS f st d P S) ∧ Gr f st R (scanS f st d P S) (scanS f st d P S).n ∧ Later S (scanS f st d P S)
  | 0, P, S, ho, h, hd, _, hle => by
    have := ho.le hg
    omega
  | d + 1, P, S, ho, h, hd, hb, hle => by
    by_cases hlt : P < S.n
    · have hst : S.st P = true := by
        rcases hb with e | e
        · omega
        · exact e
      obtain ⟨p, e1, e2⟩ := h.org P hst
      have hp0 : S.fw p ≠ 0 := by rw [e1]; exact e2
      obtain ⟨w1, w2, w3, w4⟩ := ho.went p hp0
      rw [e1] at w4
      have hL : hLen (f p) = 1 + hTag (f p) + hRaw (f p) := rfl
      have hin := (ho.good.inn P hst).2
      have hT : ∀ p j, j ≤ hTag (f p) → j < hLen (f p) := fun p j hj => by unfold hLen; omega
      have h1 : Gr f st R S (P + 1) := h.skip (by omega) fun q hq j j1 j2 c => by
        have := h.same ho hq hp0 (hT q j j2) (show 0 < hLen (f p) by omega) (by rw [e1]; omega)
        omega
      have h2 := Gr.fields hg hfb hn ho hR e1 hp0 h1 (hTag (f p)) (Nat.le_refl _)
      have hfs : ∀ j, j < hTag (f p) → S.st (P + 1 + j) = false := fun j hj => ho.good.field (p := P) (i := j) hst (by rw [w4]; omega)
      have ho2 := ho.fields hg hfb hn (first := P + 1) (count := hTag (f p)) (by rw [w4] at hin; omega) hfs _ (Nat.le_refl _)
      have hl := later_fields f st (P + 1) S (hTag (f p))
      have hp2 : (fieldsS f st (P + 1) (hTag (f p)) S).fw p = P := by rw [hl p hp0, e1]
      have hp20 : (fieldsS f st (P + 1) (hTag (f p)) S).fw p ≠ 0 := by rw [hp2]; exact e2
      have h3 : Gr f st R (fieldsS f st (P + 1) (hTag (f p)) S) (P + hLen (f p)) := h2.skip (by omega) fun q hq j j1 j2 c => by
        have := h2.same ho2 (j := (fieldsS f st (P + 1) (hTag (f p)) S).fw q + j - P) hq hp20 (hT q j j2) (by omega) (by rw [hp2]; omega)
        have e4 := this.2
        rw [this.1, hp2] at e4 c
        rw [this.1] at j2
        omega
      obtain ⟨d', s1, s2, s3, s4, s5, s6⟩ := scan_step (d := d + 1) ho hg hfb hn hd hlt hst
      rw [w4] at s1 s2 s5 s6
      have s2' : scanS f st (d + 1) P S = scanS f st d (P + hLen (f p)) (fieldsS f st (P + 1) (hTag (f p)) S) := by
        show (if P < S.n then _ else _) = _
        rw [if_pos hlt, w4]
      rw [s2']
      obtain ⟨r1, r2, r3⟩ := scan_gr hg hfb hn hR d _ _ ho2 h3 (by omega) s5 s6
      exact ⟨r1, r2, hl.trans r3⟩
    · rw [scan_done (by omega)]
      have : P = S.n := by omega
      rw [this] at h
      exact ⟨ho, h, Later.refl _⟩

theorem roots_gr {n : Nat} {f : Nat → Nat} {st : Nat → Bool} {R : Nat → Prop} (hg : Good n f st) (hfb : ∀ i, i < n → f i < 18446744073709551616) (r : Nat → Nat) : ∀ (l : Nat), (∀ k, k < l → isPtr st (r k) = true → R (r k / 4)) →
    Gr f st R (rootsS f st r l MS.zero) 1 ∧ ∀ k, k < l → Later (rootsS f st r (k + 1) MS.zero) (rootsS f st r l MS.zero)
  | 0, _ => ⟨Gr.zero _ _ _ _, fun k hk => by omega⟩
  | l + 1, hr => by
    obtain ⟨i1, i2⟩ := roots_gr hg hfb r l (fun k hk => hr k (by omega))
    have ho := MSok.roots hg hfb r l
    refine ⟨i1.mv ho ho.good.pos (hr l (by omega)), fun k hk => ?_⟩
    by_cases e : k = l
    · rw [e]; exact Later.refl _
    · exact (i2 k (by omega)).trans (later_mv _ _ _ _)

/-- A collection: the graph, and the roots. -/
theorem coll_gr {n : Nat} {f : Nat → Nat} {st : Nat → Bool} {R : Nat → Prop} (hg : Good n f st) (hfb : ∀ i, i < n → f i < 18446744073709551616) (hn : n ≤ 1048576)
    (hR : ∀ p, R p → st p = true → ∀ j, 1 ≤ j → j ≤ hTag (f p) → isPtr st (f (p + j)) = true → R (f (p + j) / 4)) (r : Nat → Nat) (l : Nat) (hr : ∀ k, k < l → isPtr st (r k) = true → R (r k / 4)) :
    MSok n f st (collS n f st r l) ∧ Gr f st R (collS n f st r l) (collS n f st r l).n ∧ ∀ k, k < l → Sure st (collS n f st r l) (r k) ∧ mvV f st (r k) (rootsS f st r k MS.zero) = mvF st (collS n f st r l) (r k) := by
  obtain ⟨i1, i2⟩ := roots_gr hg hfb r l hr
  have ho := MSok.roots hg hfb r l
  obtain ⟨s1, s2, s3⟩ := scan_gr hg hfb hn hR n 1 (rootsS f st r l MS.zero) ho i1 (by omega) (by
    rcases ho.first with e | e
    · exact .inl e.symm
    · exact .inr e) ho.good.pos
  refine ⟨s1, s2, fun k hk => ?_⟩
  have hs : Sure st (rootsS f st r (k + 1) MS.zero) (r k) := sure_mv f st (r k) _ (by have := (MSok.roots hg hfb r k).good.pos; omega)
  have h2 := hs.later ((i2 k hk).trans s3)
  exact ⟨h2.1, by rw [mvV_eq]; exact h2.2.symm⟩

end Go.Proofs.Ytfeofdeffmnbkaa
