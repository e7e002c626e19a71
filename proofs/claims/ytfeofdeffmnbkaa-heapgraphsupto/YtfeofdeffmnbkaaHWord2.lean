/-
  What is proved here: the heap's move of one word whose object is not copied yet.
-/
import Derived.Test.YtfeofdeffmnbkaaHWord
import Derived.Deep.RegionWith
namespace Go.Proofs.Ytfeofdeffmnbkaa
open Go Go.RowKit

theorem fwd_upd {f : Nat → Nat} {st : Nat → Bool} {fw : Nat → Nat} {p x : Nat} (hp : st p = true) (hx : x ≠ 0) (i : Nat) : upd (fwd f st fw) p (4 * x) i = fwd f st (upd fw p x) i := by
  by_cases e : i = p
  · subst e
    rw [upd_same, fwd_went hp (by rw [upd_same]; exact hx), upd_same]
  · rw [upd_other e]
    unfold fwd
    rw [upd_other e]

theorem HalfAt.congr {E T : TypeId} {w : World} {hb : Nat} {cur : Array Value} {o : Nat} {v u : Value} {n : Nat} {f f' : Nat → Nat} {m : Nat} {s : Nat → Nat} (h : HalfAt E T w hb cur o v u n f m s) (hf : ∀ i, i < n → f i = f' i) : HalfAt E T w hb cur o v u n f' m s :=
  ⟨h.blk, h.cv, h.cu, h.ov.congr hf, h.ou, h.nv, h.nu, h.nn⟩

theorem MovIn.copied {w w2 : World} {hb : Nat} {X : Nat → Prop} {sz : Nat} {tm : Int} {n : Nat} {f : Nat → Nat} {st : Nat → Bool} {S : MS} {i : Nat} {v u u' : Value} {m : Nat} {s : Nat → Nat} {m' : Nat} {s' : Nat → Nat} {g cap : Nat} (h : MovIn w hb X sz tm n f st S i v u (.slice (some ⟨g, 0, none⟩) n cap) u' m s m' s') {p : Nat} (hp : st p = true) (h0 : S.fw p = 0)
    {v2 u2 : Value} {m2 : Nat} {s2 : Nat → Nat} (ha : HalfAt 33 74 w2 hb (heapCells i v2 u2 (.slice (some ⟨g, 0, none⟩) n cap) u' sz tm) (2 * i) v2 u2 (S.n + hLen (f p)) (S.copy f p).f m2 s2) (hmk : ∀ q, marks m2 s2 q = also (marks m s) S.n q) (hsb : ∀ i, i < m2 → s2 i < 18446744073709551616) (hml : m2 ≤ 16385) (hu : Stays w.heap.size u u2) (hv : Stays w.heap.size v v2) (hf : Fr (foot hb v u) w w2) :
    w2.cell? ⟨hb, 2 * (1 - i), none⟩ = some (.slice (some ⟨g, 0, none⟩) n cap) ∧ w2.cell? ⟨g, p, none⟩ = some (.int .u64 (f p)) ∧ w2.frozen? ⟨g, p, none⟩ = false ∧
    ∃ X2, MovIn (w2.setCell ⟨g, p, none⟩ (.int .u64 ((4 * S.n : Nat) : Int))) hb X2 sz tm n f st (S.copy f p) i v2 u2 (.slice (some ⟨g, 0, none⟩) n cap) u' m2 s2 m' s' ∧ Grows w.heap.size X X2 ∧ Fr X w (w2.setCell ⟨g, p, none⟩ (.int .u64 ((4 * S.n : Nat) : Int))) := by
  have hlt := h.good.lt hp
  have hpos := h.ok.good.pos
  have key : ∀ k, (v2.ownBlock = some k ∨ u2.ownBlock = some k) → (v.ownBlock = some k ∨ u.ownBlock = some k) ∨ w.heap.size ≤ k := fun k e => by
    rcases e with e | e
    · rcases hv k e with e | e
      · exact .inl (.inl e)
      · exact .inr e
    · rcases hu k e with e | e
      · exact .inl (.inr e)
      · exact .inr e
  have hnot : ∀ k, ((Value.slice (some ⟨g, 0, none⟩) n cap).ownBlock = some k ∨ u'.ownBlock = some k) → ¬ foot hb v u k := fun k e e2 => by
    rcases e2 with e2 | e2
    · subst e2
      rcases e with e | e
      · exact h.b.nv e
      · exact h.b.nu e
    · exact h.far k e2 e
  have far2 : ∀ k, (v2.ownBlock = some k ∨ u2.ownBlock = some k) → ¬ ((Value.slice (some ⟨g, 0, none⟩) n cap).ownBlock = some k ∨ u'.ownBlock = some k) := fun k e e2 => by
    rcases key k e with e | e
    · exact h.far k e e2
    · rcases e2 with e2 | e2
      · have := h.b.ov.block_lt e2; omega
      · have := h.b.ou.block_lt e2; omega
  have hb2 : HalfAt 33 74 w2 hb (heapCells i v2 u2 (.slice (some ⟨g, 0, none⟩) n cap) u' sz tm) (2 * (1 - i)) (.slice (some ⟨g, 0, none⟩) n cap) u' n (fwd f st S.fw) m' s' :=
    ⟨ha.blk, (heapCells_other h.i1 _ _ _ _ _ _).1, (heapCells_other h.i1 _ _ _ _ _ _).2, h.b.ov.fr hf fun k hk => hnot k (.inl hk), h.b.ou.fr hf fun k hk => hnot k (.inr hk), h.b.nv, h.b.nu, h.b.nn⟩
  have hrow : RowAt .u64 33 w2 g cap n (fwd f st S.fw) := by
    rcases hb2.ov with ⟨e, _⟩ | ⟨g', cap', e, _, _, h3⟩
    · cases e
    · cases e; exact h3
  have hcl := hrow.cell hlt
  rw [fwd_not h0] at hcl
  refine ⟨hb2.cellv, hcl, hrow.free p, fun k => foot hb v2 u2 k ∨ (Value.slice (some ⟨g, 0, none⟩) n cap).ownBlock = some k ∨ u'.ownBlock = some k, ⟨h.i1, ha.fr (S := fun k => k = g) (Fr.setCell (S := fun k => k = g) (Fr.refl _ _) (fun _ => rfl) _ _) fun k hk e => ?_, (hb2.setV hlt (4 * S.n)).congr (fun k _ => fwd_upd hp (by omega) k), far2, fun q => ?_, hsb, hml, h.markF, h.sbF, h.mlF, h.good, h.fb, h.ok.copy h.good h.fb hp h0, h.nz, h.z, fun _ => Iff.rfl⟩, fun k hk => ?_, ?_⟩
  · subst e
    rcases hk with e | e
    · exact hb2.nv (by rw [← e]; rfl)
    · exact far2 _ e (.inl rfl)
  · rw [hmk]
    show also S.st S.n q = _
    unfold also
    rw [h.markT]
  · rcases hk with (e | e) | e
    · exact .inl ((h.xs k).2 (.inl (.inl e)))
    · rcases key k e with e | e
      · exact .inl ((h.xs k).2 (.inl (.inr e)))
      · exact .inr e
    · exact .inl ((h.xs k).2 (.inr e))
  · exact (hf.mono fun k _ e => (h.xs k).2 (.inl e)).setCell (fun _ => (h.xs g).2 (.inr (.inl rfl))) _ _

set_option maxHeartbeats 4000000 in
theorem word_copy (w : World) (hb : Nat) (X : Nat → Prop) (sz : Nat) (tm : Int) (n : Nat) (f : Nat → Nat) (st : Nat → Bool) (S : MS) (i x p : Nat) (h : Mov w hb X sz tm n f st S i) (hx : x < 18446744073709551616) (hp : isPtr st x = true) (hxp : x / 4 = p) (h0 : S.fw p = 0) :
    Calls Try.prog 66 #[.agg #[.pointer (some ⟨hb, 2 * (1 - i), none⟩), .pointer (some ⟨hb, 2 * i, none⟩)], .int .u64 (x : Int)] w fun e w' => e = .returned (.int .u64 ((4 * S.n : Nat) : Int)) ∧ ∃ X2, Mov w' hb X2 sz tm n f st (S.copy f p) i ∧ Grows w.heap.size X X2 ∧ Fr X w w' := by
  obtain ⟨v, u, v', u', m, s, m', s', h⟩ := h
  have hp' := h.ptr x
  rw [hp] at hp'
  have hst := (isPtr_st hp).1
  rw [hxp] at hst
  have hlt := h.good.lt hst
  have hle := (h.ok.copy h.good h.fb hst h0).le h.good
  have hz := h.z
  have hnz := h.nz
  have hend := (h.good.inn p hst).2
  have hL : 1 ≤ hLen (f p) := by unfold hLen; omega
  have hfp := h.fb p hlt
  have hM := h.fr (T := fun _ => False) ((Fr.refl _ w).alloc (.cells #[.pointer (some ⟨hb, 2 * (1 - i), none⟩), .pointer (some ⟨hb, 2 * i, none⟩)] 76)) (fun _ _ e => e)
  have K := hplace_yes 74 _ hb _ _ v' u' n _ m' s' x hM.b (by have := h.mlF; omega) h.sbF hx hp'
  rw [hxp] at K
  have hcv := hM.b.cellv
  obtain ⟨g, cap, rfl, hc1, hc2, hcl⟩ := hM.b.ov.rd hlt
  rw [fwd_not h0] at hcl
  have hB := and_2 (f p) hfp
  have htag := h.good.tag p hst
  rw [htag] at hB
  have hB0 : bits BinOp.and IntKind.u64 (f p : Int) 3 = 3 := hB
  have hlen2 : (S.copy f p).n = S.n + hLen (f p) := rfl
  have hd : ∀ k, k < hLen (f p) → (w.alloc (.cells #[.pointer (some ⟨hb, 2 * (1 - i), none⟩), .pointer (some ⟨hb, 2 * i, none⟩)] 76)).cell? ⟨g, p + k, none⟩ = some (.int .u64 (f (p + k))) := fun k hk => by
    obtain ⟨g', cap', e, _, _, hck⟩ := hM.b.ov.rd (i := p + k) (by omega)
    cases e
    rw [hck]
    by_cases e : k = 0
    · subst e
      rw [Nat.add_zero, fwd_not h0]
    · have := h.good.field (p := p) (i := k - 1) hst (by omega)
      rw [show p + 1 + (k - 1) = p + k by omega] at this
      rw [fwd_field this]
  have hgb := World.block_lt_of_cell? _ _ hcl
  have KL := fun w1 (hf : Fr (fun _ => False) (w.alloc (.cells #[.pointer (some ⟨hb, 2 * (1 - i), none⟩), .pointer (some ⟨hb, 2 * i, none⟩)] 76)) w1) => layCopy_any 74 w1 hb _ (2 * i) v u S.n S.f m s g p (hLen (f p)) (cap - p) (fun k => f (p + k)) (hM.fr hf (fun _ _ e => e)).a (by omega) (by omega) (by omega) (by omega) h.mlT h.sbT (fun k hk => (hf.cell (o := p + k) hgb (fun e => e)).trans (hd k hk)) (fun e => h.b.nv (by rw [e]; rfl)) (fun e => h.far g (.inr e) (.inl rfl)) (fun e => h.far g (.inl e) (.inl rfl))
  have HM := hide hM
  have HB : Hid (¬ foot hb v u w.heap.size) := hide fun e => by
    rcases e with e | e | e
    · have := h.a.lt; omega
    · have := h.a.ov.block_lt e; omega
    · have := h.a.ou.block_lt e; omega
  have KW := fun w => words_num (f p) w hfp
  obtain ⟨L, hLe⟩ : ∃ L, L = hLen (f p) := ⟨_, rfl⟩
  rw [← hLe] at KW KL hend hL
  have HLE := hide hLe
  clear hB htag hd hM hp' hlen2 hLe
  go_enter Try.func66, Try.ntmps66
  go_wp2_with (first
    | (go_at_call 58; refine K.mono ?_; rintro e w' ⟨rfl, hw⟩; replace hw := hw.symm; subst hw)
    | (go_at_call 52; refine (KW _).mono ?_; rintro e w' ⟨rfl, hw⟩; replace hw := hw.symm; subst hw))
  go_region_with (go_at_call 69; refine (KL _ ?_).mono ?_; exact (Fr.refl _ _).drew; rintro e w2 ⟨rfl, v2, u2, m2, s2, ha2, hmk2, hsb2, hml2, su2, sv2, hf2⟩)
  all_goals
    rw [heapCells_u HM.out.i1, heapCells_v HM.out.i1, HLE.out] at ha2
    obtain ⟨hq1, hq2, hq3, X2, hM2, hG2, hF2⟩ := HM.out.copied hst h0 ha2 hmk2 hsb2 hml2 su2 sv2 (Fr.trans ((Fr.refl _ _).drew) hf2 (fun _ _ e => e))
    have hbx := (hf2.cell (o := 0) (b := w.heap.size) (by simp) HB.out).trans (mcells w _ _ _).1
    have HM2 := hide hM2
    have HG2 := hide hG2
    have HF2 := hide hF2
    clear hM2 hG2 hF2 ha2 hmk2 hsb2 hml2 su2 sv2 hf2
    go_wp2
    go_ret
    refine ⟨retI (by omega), X2, ⟨_, _, _, _, _, _, _, _, HM2.out⟩, fun k hk => ?_, Fr.trans ((Fr.refl _ _).alloc _) HF2.out (fun _ _ e => e)⟩
    rcases HG2.out k hk with e | e
    · exact .inl e
    · simp at e
      exact .inr (by omega)

end Go.Proofs.Ytfeofdeffmnbkaa
