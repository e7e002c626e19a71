/-
  What is proved here: plain facts: a collection twice over is the same as once; what every field of a heap is; no walk.
-/
import Derived.Test.YtfeofdeffmnbkaaHGraph2
namespace Go.Proofs.Ytfeofdeffmnbkaa
open Go Go.RowKit

/-- Every tagged field is one that may be. -/
def Fine (f : Nat → Nat) (st : Nat → Bool) : Prop := ∀ p, st p = true → ∀ j, 1 ≤ j → j ≤ hTag (f p) → may st (f (p + j)) = true

/-- The second collection beside the first, whose end is T. -/
structure Sim (T S S' : MS) : Prop where
  n : S'.n = S.n
  st : ∀ q, S'.st q = S.st q
  fw : ∀ q, S'.fw q = if S.st q = true then q else 0
  f : ∀ i, 1 ≤ i → i < S.n → S'.f i = T.f i
  z : S'.f 0 = 0 ∧ S.f 0 = 0
  pos : 1 ≤ S.n

theorem Sim.zero (T : MS) : Sim T MS.zero MS.zero := ⟨rfl, fun _ => rfl, fun _ => rfl, (fun i h1 h2 => by have : i < 1 := h2; omega), ⟨rfl, rfl⟩, Nat.le_refl _⟩

theorem isPtr_of {st : Nat → Bool} {q : Nat} (h : st q = true) : isPtr st (4 * q) = true := by
  unfold isPtr
  rw [show 4 * q / 4 = q by omega, h]
  simp
theorem isPtr_zero {n : Nat} {f : Nat → Nat} {st : Nat → Bool} (h : Good n f st) : isPtr st 0 = false := by
  unfold isPtr
  cases e : st (0 / 4) with
  | false => simp
  | true => have := (h.inn _ e).1; omega

theorem Sim.mv {n : Nat} {f : Nat → Nat} {st : Nat → Bool} {T S S' : MS} (h : Sim T S S') (hT : MSok n f st T) (ho : MSok n f st S) {x : Nat} (hl : Later (mvS f st x S) T) (hno : isPtr st x = false → isPtr T.st x = false) :
    Sim T (mvS f st x S) (mvS T.f T.st (mvF st T x) S') ∧ mvV T.f T.st (mvF st T x) S' = mvF st T x := by
  cases hp : isPtr st x with
  | false =>
    have e1 : mvS f st x S = S := by unfold mvS; rw [if_neg (by rw [hp]; simp)]
    have e2 : mvF st T x = x := by unfold mvF; rw [if_neg (by rw [hp]; simp)]
    have e3 : mvS T.f T.st x S' = S' := by unfold mvS; rw [if_neg (by rw [hno hp]; simp)]
    rw [e1, e2, e3]
    exact ⟨h, mvV_no (hno hp)⟩
  | true =>
    have e2 : mvF st T x = 4 * T.fw (x / 4) := by unfold mvF; rw [if_pos hp]
    by_cases h0 : S.fw (x / 4) = 0
    · rw [mvS_copy hp h0] at hl ⊢
      have hn0 : S.n ≠ 0 := by have := h.pos; omega
      have c1 : (S.copy f (x / 4)).fw (x / 4) = S.n := by show upd S.fw (x / 4) S.n (x / 4) = S.n; rw [upd_same]
      have c2 : T.fw (x / 4) = S.n := by rw [hl (x / 4) (by rw [c1]; exact hn0), c1]
      obtain ⟨w1, w2, w3, w4⟩ := hT.went (x / 4) (by rw [c2]; exact hn0)
      rw [c2] at w2 w3 w4
      have hns : S.st S.n = false := by
        cases e : S.st S.n with
        | false => rfl
        | true => have := ho.good.lt e; omega
      have hq : (4 * S.n) / 4 = S.n := by omega
      have hp' := isPtr_of w3
      have h0' : S'.fw (4 * S.n / 4) = 0 := by rw [hq, h.fw, hns]; simp
      rw [e2, c2, mvV_copy hp' h0', mvS_copy hp' h0', hq, h.n]
      refine ⟨⟨?_, fun q => ?_, fun q => ?_, fun i h1 h2 => ?_, ⟨?_, ?_⟩, ?_⟩, rfl⟩
      · show S'.n + hLen (T.f S.n) = S.n + hLen (f (x / 4))
        rw [h.n, w4]
      · show also S'.st S'.n q = also S.st S.n q
        unfold also
        rw [h.st, h.n]
      · show upd S'.fw S.n S'.n q = if also S.st S.n q = true then q else 0
        by_cases e : q = S.n
        · rw [e, upd_same, h.n, also_new]; simp
        · have : also S.st S.n q = S.st q := by unfold also; simp [e]
          rw [upd_other e, h.fw, this]
      · show (if i < S'.n then S'.f i else T.f (S.n + (i - S'.n))) = T.f i
        rw [h.n]
        by_cases c : i < S.n
        · rw [if_pos c]; exact h.f i h1 c
        · rw [if_neg c, show S.n + (i - S.n) = i by omega]
      · show (if 0 < S'.n then S'.f 0 else T.f (S.n + (0 - S'.n))) = 0
        rw [h.n, if_pos (by have := h.pos; omega)]; exact h.z.1
      · show (if 0 < S.n then S.f 0 else f (x / 4 + (0 - S.n))) = 0
        rw [if_pos (by have := h.pos; omega)]; exact h.z.2
      · show 1 ≤ S.n + hLen (f (x / 4))
        have := h.pos; omega
    · rw [mvS_same h0] at hl ⊢
      obtain ⟨w1, w2, w3, w4⟩ := ho.went (x / 4) h0
      have c2 : T.fw (x / 4) = S.fw (x / 4) := hl _ h0
      obtain ⟨v1, v2, v3, v4⟩ := hT.went (x / 4) (by rw [c2]; exact h0)
      rw [c2] at v3
      have hq : (4 * S.fw (x / 4)) / 4 = S.fw (x / 4) := by omega
      have h0' : S'.fw (4 * S.fw (x / 4) / 4) ≠ 0 := by rw [hq, h.fw, w3]; simp; exact h0
      rw [e2, c2, mvV_same (isPtr_of v3) h0', mvS_same h0', hq, h.fw, w3]
      exact ⟨h, by simp⟩

theorem Sim.set {T S S' : MS} (h : Sim T S S') {i x : Nat} (hi : 1 ≤ i) : Sim T (S.set i x) (S'.set i (T.f i)) :=
  ⟨h.n, h.st, h.fw, fun k h1 h2 => by
    show upd S'.f i (T.f i) k = T.f k
    by_cases e : k = i
    · rw [e, upd_same]
    · rw [upd_other e]; exact h.f k h1 h2, ⟨by show upd S'.f i (T.f i) 0 = 0; rw [upd_other (by omega)]; exact h.z.1, by show upd S.f i x 0 = 0; rw [upd_other (by omega)]; exact h.z.2⟩, h.pos⟩

theorem Sim.roots {n : Nat} {f : Nat → Nat} {st : Nat → Bool} {T : MS} (hg : Good n f st) (hfb : ∀ i, i < n → f i < 18446744073709551616) (hT : MSok n f st T) (r a : Nat → Nat) : ∀ l, (∀ k, k < l → Later (rootsS f st r (k + 1) MS.zero) T) → (∀ k, k < l → isPtr st (r k) = false → isPtr T.st (r k) = false) → (∀ k, k < l → a k = mvF st T (r k)) →
    Sim T (rootsS f st r l MS.zero) (rootsS T.f T.st a l MS.zero) ∧ ∀ k, k < l → mvV T.f T.st (a k) (rootsS T.f T.st a k MS.zero) = a k
  | 0, _, _, _ => ⟨Sim.zero T, fun k hk => by omega⟩
  | l + 1, hl, hno, ha => by
    obtain ⟨i1, i2⟩ := Sim.roots hg hfb hT r a l (fun k hk => hl k (by omega)) (fun k hk => hno k (by omega)) (fun k hk => ha k (by omega))
    have hs := i1.mv hT (MSok.roots hg hfb r l) (x := r l) (hl l (by omega)) (hno l (by omega))
    rw [← ha l (by omega)] at hs
    refine ⟨hs.1, fun k hk => ?_⟩
    by_cases e : k = l
    · rw [e]; exact hs.2
    · exact i2 k (by omega)

theorem Sim.fields {n : Nat} {f : Nat → Nat} {st : Nat → Bool} {T S S' : MS} (hg : Good n f st) (hfb : ∀ i, i < n → f i < 18446744073709551616) (hn : n ≤ 1048576) (hF : Fine f st) (hT : MSok n f st T) (hGT : Gr f st (fun _ => True) T T.n) (ho : MSok n f st S) {p place : Nat} (hp : S.fw p = place) (hp0 : S.fw p ≠ 0) (h : Gr f st (fun _ => True) S (place + 1)) (hs : Sim T S S')
    (hlT : Later (fieldsS f st (place + 1) (hTag (f p)) S) T) : ∀ k, k ≤ hTag (f p) → Sim T (fieldsS f st (place + 1) k S) (fieldsS T.f T.st (place + 1) k S')
  | 0, _ => hs
  | k + 1, hk => by
    have ih := Sim.fields hg hfb hn hF hT hGT ho hp hp0 h hs hlT k (by omega)
    obtain ⟨w1, w2, w3, w4⟩ := ho.went p hp0
    have hin := (ho.good.inn _ w3).2
    rw [w4, hp] at hin
    have hL : hLen (f p) = 1 + hTag (f p) + hRaw (f p) := rfl
    have hfs : ∀ j, j < hTag (f p) → S.st (place + 1 + j) = false := fun j hj => by
      have := ho.good.field (p := S.fw p) (i := j) w3 (by rw [w4]; omega)
      rw [hp] at this
      exact this
    have hok := ho.fields hg hfb hn (first := place + 1) (count := hTag (f p)) (by omega) hfs k (by omega)
    have hgr := Gr.fields hg hfb hn ho (R := fun _ => True) (fun _ _ _ _ _ _ _ => trivial) hp hp0 h k (by omega)
    have hl := later_fields f st (place + 1) S k p hp0
    have hpk : (fieldsS f st (place + 1) k S).fw p = place := by rw [hl, hp]
    have hpk0 : (fieldsS f st (place + 1) k S).fw p ≠ 0 := by rw [hl]; exact hp0
    have hx : (fieldsS f st (place + 1) k S).f (place + 1 + k) = f (p + (k + 1)) := by
      have := hgr.old p hpk0 (k + 1) (by omega) (by omega) (by rw [hpk]; omega)
      rw [hpk] at this
      rw [show place + 1 + k = place + (k + 1) by omega]
      exact this
    -- what the second finds there
    have hTp : T.fw p = place := by rw [hlT p (by rw [later_fields f st (place + 1) S (hTag (f p)) p hp0]; exact hp0), later_fields f st (place + 1) S (hTag (f p)) p hp0, hp]
    have hTp0 : T.fw p ≠ 0 := by rw [hTp, ← hp]; exact hp0
    obtain ⟨v1, v2, v3, v4⟩ := hT.went p hTp0
    have hinT := (hT.good.inn _ v3).2
    rw [v4, hTp] at hinT
    have hnew := (hGT.new p hTp0 (k + 1) (by omega) (by omega) (by rw [hTp]; omega)).1
    rw [hTp] at hnew
    obtain ⟨k1, k2, k3⟩ := fieldsS_keeps f st (place + 1) S k
    have hpos : place + 1 + k < (fieldsS f st (place + 1) k S).n := by
      obtain ⟨z1, z2, z3, z4⟩ := hok.went p hpk0
      have := (hok.good.inn _ z3).2
      rw [z4, hpk] at this
      omega
    have hx2 : (fieldsS T.f T.st (place + 1) k S').f (place + 1 + k) = mvF st T (f (p + (k + 1))) := by
      rw [ih.f _ (by omega) hpos, show place + 1 + k = place + (k + 1) by omega, hnew]
    have hlat : Later (mvS f st (f (p + (k + 1))) (fieldsS f st (place + 1) k S)) T := by
      intro q hq
      have e : (fieldsS f st (place + 1) (k + 1) S).fw q = (mvS f st (f (p + (k + 1))) (fieldsS f st (place + 1) k S)).fw q := by
        show (MS.set _ _ _).fw q = _
        rw [hx]
        rfl
      have e2 : (fieldsS f st (place + 1) (hTag (f p)) S).fw q = (fieldsS f st (place + 1) (k + 1) S).fw q := by
        rw [← e] at hq
        have : ∀ d, (fieldsS f st (place + 1) (k + 1 + d) S).fw q = (fieldsS f st (place + 1) (k + 1) S).fw q := fun d => by
          induction d with
          | zero => rfl
          | succ d ihd =>
            have := later_mv f st ((fieldsS f st (place + 1) (k + 1 + d) S).f (place + 1 + (k + 1 + d))) (fieldsS f st (place + 1) (k + 1 + d) S) q (by rw [ihd]; exact hq)
            exact this.trans ihd
        have h5 := this (hTag (f p) - (k + 1))
        rw [show k + 1 + (hTag (f p) - (k + 1)) = hTag (f p) by omega] at h5
        exact h5
      rw [hlT q (by rw [e2, e]; exact hq), e2, e]
    have hmay := hF p w1 (k + 1) (by omega) (by omega)
    have hsm := ih.mv hT hok (x := f (p + (k + 1))) hlat (fun hc => by
      have h4 : f (p + (k + 1)) % 4 = 1 ∨ f (p + (k + 1)) % 4 = 2 := by
        unfold may at hmay
        rw [hc] at hmay
        simp at hmay
        exact hmay
      unfold isPtr
      rcases h4 with h4 | h4 <;> simp [h4])
    have e1 : fieldsS f st (place + 1) (k + 1) S = (mvS f st (f (p + (k + 1))) (fieldsS f st (place + 1) k S)).set (place + 1 + k) (mvV f st (f (p + (k + 1))) (fieldsS f st (place + 1) k S)) := by
      show MS.set _ _ _ = _
      rw [hx]
    have e3 : fieldsS T.f T.st (place + 1) (k + 1) S' = (mvS T.f T.st (mvF st T (f (p + (k + 1)))) (fieldsS T.f T.st (place + 1) k S')).set (place + 1 + k) (T.f (place + 1 + k)) := by
      show MS.set _ _ _ = _
      rw [hx2, hsm.2, show place + 1 + k = place + (k + 1) by omega, hnew]
    rw [e1, e3]
    exact hsm.1.set (by omega)

theorem Sim.scan {n : Nat} {f : Nat → Nat} {st : Nat → Bool} {T : MS} (hg : Good n f st) (hfb : ∀ i, i < n → f i < 18446744073709551616) (hn : n ≤ 1048576) (hF : Fine f st) (hT : MSok n f st T) (hGT : Gr f st (fun _ => True) T T.n) : ∀ (d P : Nat) (S S' : MS) (d' : Nat), MSok n f st S → Gr f st (fun _ => True) S P → n + 1 ≤ d + P → (P = S.n ∨ S.st P = true) → P ≤ S.n → Sim T S S' → scanS f st d P S = T → T.n + 1 ≤ d' + P → 1 ≤ P → Sim T T (scanS T.f T.st d' P S')
  | 0, P, S, S', d', ho, h, hd, _, hle, _, _, _, _ => by
    have := ho.le hg
    omega
  | d + 1, P, S, S', d', ho, h, hd, hb, hle, hs, hend, hd', hP => by
    by_cases hlt : P < S.n
    · have hst : S.st P = true := by
        rcases hb with e | e
        · omega
        · exact e
      obtain ⟨p, e1, e2⟩ := h.org P hst
      have hp0 : S.fw p ≠ 0 := by rw [e1]; exact e2
      obtain ⟨w1, w2, w3, w4⟩ := ho.went p hp0
      rw [e1] at w4
      have hL : hLen (f p) = 1 + hTag (f p) + hRaw (f p) := rfl
      have hin := (ho.good.inn P hst).2
      have hT' : ∀ p j, j ≤ hTag (f p) → j < hLen (f p) := fun p j hj => by unfold hLen; omega
      have h1 : Gr f st (fun _ => True) S (P + 1) := h.skip (by omega) fun q hq j j1 j2 c => by
        have := h.same ho hq hp0 (hT' q j j2) (show 0 < hLen (f p) by omega) (by rw [e1]; omega)
        omega
      have h2 := Gr.fields hg hfb hn ho (R := fun _ => True) (fun _ _ _ _ _ _ _ => trivial) e1 hp0 h1 (hTag (f p)) (Nat.le_refl _)
      have hfs : ∀ j, j < hTag (f p) → S.st (P + 1 + j) = false := fun j hj => ho.good.field (p := P) (i := j) hst (by rw [w4]; omega)
      have ho2 := ho.fields hg hfb hn (first := P + 1) (count := hTag (f p)) (by rw [w4] at hin; omega) hfs _ (Nat.le_refl _)
      have hl := later_fields f st (P + 1) S (hTag (f p))
      have hp2 : (fieldsS f st (P + 1) (hTag (f p)) S).fw p = P := by rw [hl p hp0, e1]
      have hp20 : (fieldsS f st (P + 1) (hTag (f p)) S).fw p ≠ 0 := by rw [hp2]; exact e2
      have h3 : Gr f st (fun _ => True) (fieldsS f st (P + 1) (hTag (f p)) S) (P + hLen (f p)) := h2.skip (by omega) fun q hq j j1 j2 c => by
        have := h2.same ho2 (j := (fieldsS f st (P + 1) (hTag (f p)) S).fw q + j - P) hq hp20 (hT' q j j2) (by omega) (by rw [hp2]; omega)
        have e4 := this.2
        rw [this.1, hp2] at e4 c
        rw [this.1] at j2
        omega
      obtain ⟨d2, s1, s2, s3, s4, s5, s6⟩ := scan_step (d := d + 1) ho hg hfb hn hd hlt hst
      rw [w4] at s1 s2 s5 s6
      have s2' : scanS f st (d + 1) P S = scanS f st d (P + hLen (f p)) (fieldsS f st (P + 1) (hTag (f p)) S) := by
        show (if P < S.n then _ else _) = _
        rw [if_pos hlt, w4]
      rw [s2'] at hend
      have hlT : Later (fieldsS f st (P + 1) (hTag (f p)) S) T := by
        have := (scan_gr hg hfb hn (R := fun _ => True) (fun _ _ _ _ _ _ _ => trivial) d _ _ ho2 h3 (by omega) s5 s6).2.2
        rw [hend] at this
        exact this
      have hs2 := Sim.fields hg hfb hn hF hT hGT ho e1 hp0 h1 hs hlT (hTag (f p)) (Nat.le_refl _)
      -- the second does the same
      have hTp : T.fw p = P := by rw [hlT p hp20, hp2]
      obtain ⟨v1, v2, v3, v4⟩ := hT.went p (by rw [hTp]; exact e2)
      rw [hTp] at v2 v3 v4
      have hSP : S'.f P = f p := by rw [hs.f P hP hlt, v4]
      have hlt' : P < S'.n := by rw [hs.n]; exact hlt
      obtain ⟨d3, rfl⟩ : ∃ d3, d' = d3 + 1 := ⟨d' - 1, by omega⟩
      have s3' : scanS T.f T.st (d3 + 1) P S' = scanS T.f T.st d3 (P + hLen (f p)) (fieldsS T.f T.st (P + 1) (hTag (f p)) S') := by
        show (if P < S'.n then _ else _) = _
        rw [if_pos hlt', hSP]
      rw [s3']
      exact Sim.scan hg hfb hn hF hT hGT d _ _ _ d3 ho2 h3 (by omega) s5 s6 hs2 hend (by omega) (by omega)
    · rw [scan_done (by omega)] at hend
      subst hend
      have : scanS S.f S.st d' P S' = S' := scan_done (by rw [hs.n]; omega)
      rw [this]
      exact hs

/-- A collection twice over. -/
theorem coll_twice {n : Nat} {f : Nat → Nat} {st : Nat → Bool} (hg : Good n f st) (hfb : ∀ i, i < n → f i < 18446744073709551616) (hn : n ≤ 1048576) (hF : Fine f st) (r a : Nat → Nat) (l : Nat) (hr : ∀ k, k < l → isPtr st (r k) = true ∨ r k = 0) (T : MS) (hTe : T = collS n f st r l) (ha : ∀ k, k < l → a k = mvV f st (r k) (rootsS f st r k MS.zero)) :
    (collS T.n T.f T.st a l).n = T.n ∧ (∀ i, i < T.n → (collS T.n T.f T.st a l).f i = T.f i) ∧ ∀ k, k < l → mvV T.f T.st (a k) (rootsS T.f T.st a k MS.zero) = a k := by
  obtain ⟨c1, c2, c3⟩ := coll_gr (R := fun _ => True) hg hfb hn (fun _ _ _ _ _ _ _ => trivial) r l (fun _ _ _ => trivial)
  obtain ⟨i1, i2⟩ := roots_gr (R := fun _ => True) hg hfb r l (fun _ _ _ => trivial)
  have ho := MSok.roots hg hfb r l
  have hfirst : (1 = (rootsS f st r l MS.zero).n ∨ (rootsS f st r l MS.zero).st 1 = true) := by
    rcases ho.first with e | e
    · exact .inl e.symm
    · exact .inr e
  obtain ⟨s1, s2, s3⟩ := scan_gr hg hfb hn (R := fun _ => True) (fun _ _ _ _ _ _ _ => trivial) n 1 (rootsS f st r l MS.zero) ho i1 (by omega) hfirst ho.good.pos
  rw [← hTe] at c1 c2 c3
  have hend : scanS f st n 1 (rootsS f st r l MS.zero) = T := hTe.symm
  rw [hend] at s3
  have hsr := Sim.roots hg hfb c1 r a l (fun k hk => (i2 k hk).trans s3) (fun k hk hc => by
    rcases hr k hk with e | e
    · rw [e] at hc; cases hc
    · rw [e]; exact isPtr_zero c1.good) (fun k hk => by rw [ha k hk]; exact (c3 k hk).2)
  have hfin := Sim.scan hg hfb hn hF c1 c2 n 1 _ _ T.n ho i1 (by omega) hfirst ho.good.pos hsr.1 hend (by omega) (by omega)
  refine ⟨hfin.n, fun i hi => ?_, hsr.2⟩
  by_cases e : i = 0
  · rw [e]
    show (scanS T.f T.st T.n 1 (rootsS T.f T.st a l MS.zero)).f 0 = T.f 0
    rw [hfin.z.1, hfin.z.2]
  · exact hfin.f i (by omega) hi

/-! What a script keeps: every field is one that may be, every object kept is one. -/
theorem may_ptr {st : Nat → Bool} {x : Nat} : may st x = true ↔ (x % 4 = 1 ∨ x % 4 = 2 ∨ isPtr st x = true) := by
  unfold may
  simp [or_assoc]
theorem isPtr_also {st : Nat → Bool} {n x : Nat} (h : isPtr st x = true) : isPtr (also st n) x = true := by
  obtain ⟨h1, h2⟩ := isPtr_st h
  unfold isPtr also
  rw [h1]
  simp [h2]
theorem may_also {st : Nat → Bool} {n x : Nat} (h : may st x = true) : may (also st n) x = true := by
  rw [may_ptr] at h ⊢
  rcases h with h | h | h
  · exact .inl h
  · exact .inr (.inl h)
  · exact .inr (.inr (isPtr_also h))

theorem Fine.coll {n : Nat} {f : Nat → Nat} {st : Nat → Bool} (hg : Good n f st) (hfb : ∀ i, i < n → f i < 18446744073709551616) (hn : n ≤ 1048576) (hF : Fine f st) (r : Nat → Nat) (l : Nat) : Fine (collS n f st r l).f (collS n f st r l).st := by
  obtain ⟨c1, c2, c3⟩ := coll_gr (R := fun _ => True) hg hfb hn (fun _ _ _ _ _ _ _ => trivial) r l (fun _ _ _ => trivial)
  intro q hq j h1 h2
  obtain ⟨p, e1, e2⟩ := c2.org q hq
  have hp0 : (collS n f st r l).fw p ≠ 0 := by rw [e1]; exact e2
  obtain ⟨w1, w2, w3, w4⟩ := c1.went p hp0
  rw [e1] at w4
  rw [w4] at h2
  have hin := (c1.good.inn q hq).2
  rw [w4] at hin
  have hL : hLen (f p) = 1 + hTag (f p) + hRaw (f p) := rfl
  obtain ⟨n1, n2⟩ := c2.new p hp0 j h1 h2 (by rw [e1]; omega)
  rw [e1] at n1
  rw [n1]
  have hm := hF p w1 j h1 h2
  unfold mvF
  by_cases c : isPtr st (f (p + j)) = true
  · rw [if_pos c, may_ptr]
    exact .inr (.inr (isPtr_of (c1.went _ (n2 c)).2.2.1))
  · rw [if_neg c, may_ptr]
    rw [may_ptr] at hm
    rcases hm with h | h | h
    · exact .inl h
    · exact .inr (.inl h)
    · exact absurd h c

end Go.Proofs.Ytfeofdeffmnbkaa
