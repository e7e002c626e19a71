/-
  What is proved here: the heap's move of any word, and of the tagged fields of an object that was copied.
-/
import Derived.Test.YtfeofdeffmnbkaaHWord2
namespace Go.Proofs.Ytfeofdeffmnbkaa
open Go Go.RowKit

theorem word_any (w : World) (hb : Nat) (X : Nat → Prop) (sz : Nat) (tm : Int) (n : Nat) (f : Nat → Nat) (st : Nat → Bool) (S : MS) (i x : Nat) (h : Mov w hb X sz tm n f st S i) (hx : x < 18446744073709551616) :
    Calls Try.prog 66 #[.agg #[.pointer (some ⟨hb, 2 * (1 - i), none⟩), .pointer (some ⟨hb, 2 * i, none⟩)], .int .u64 (x : Int)] w fun e w' => e = .returned (.int .u64 (mvV f st x S : Int)) ∧ ∃ X2, Mov w' hb X2 sz tm n f st (mvS f st x S) i ∧ Grows w.heap.size X X2 ∧ Fr X w w' := by
  cases hp : isPtr st x with
  | false =>
    rw [mvV_no hp, mvS_no hp]
    exact (word_no w hb X sz tm n f st S i x h hx hp).mono fun e w' he => ⟨he.1, X, h.fr he.2 (fun _ _ e => e), Grows.refl _ _, he.2.mono fun _ _ e => e.elim⟩
  | true =>
    by_cases h0 : S.fw (x / 4) = 0
    · rw [mvV_copy hp h0, mvS_copy hp h0]
      exact word_copy w hb X sz tm n f st S i x (x / 4) h hx hp rfl h0
    · rw [mvV_same hp h0, mvS_same h0]
      exact (word_same w hb X sz tm n f st S i x h hx hp h0).mono fun e w' he => ⟨he.1, X, h.fr he.2 (fun _ _ e => e), Grows.refl _ _, he.2.mono fun _ _ e => e.elim⟩

/-- A word of the half in use is set. -/
theorem MovIn.put {w : World} {hb : Nat} {X : Nat → Prop} {sz : Nat} {tm : Int} {n : Nat} {f : Nat → Nat} {st : Nat → Bool} {S : MS} {i : Nat} {u v' u' : Value} {m : Nat} {s : Nat → Nat} {m' : Nat} {s' : Nat → Nat} {g cap : Nat} (h : MovIn w hb X sz tm n f st S i (.slice (some ⟨g, 0, none⟩) S.n cap) u v' u' m s m' s') {j y : Nat} (hj : j < S.n) (hst : S.st j = false) (hy : y < 18446744073709551616) :
    w.cell? ⟨g, j, none⟩ = some (.int .u64 (S.f j)) ∧ w.frozen? ⟨g, j, none⟩ = false ∧ MovIn (w.setCell ⟨g, j, none⟩ (.int .u64 y)) hb X sz tm n f st (S.set j y) i (.slice (some ⟨g, 0, none⟩) S.n cap) u v' u' m s m' s' ∧ Fr X w (w.setCell ⟨g, j, none⟩ (.int .u64 y)) := by
  have hX : X g := (h.xs g).2 (.inl (.inr (.inl rfl)))
  have hfr : Fr (fun k => k = g) w (w.setCell ⟨g, j, none⟩ (.int .u64 y)) := Fr.setCell (S := fun k => k = g) (Fr.refl _ _) (fun _ => rfl) _ _
  have hrow : RowAt .u64 33 w g cap S.n S.f := by
    rcases h.a.ov with ⟨e, _⟩ | ⟨g', cap', e, _, _, h3⟩
    · cases e
    · cases e; exact h3
  refine ⟨hrow.cell hj, hrow.free j, ⟨h.i1, h.a.setV hj y, h.b.fr hfr fun k hk e => ?_, h.far, h.markT, h.sbT, h.mlT, h.markF, h.sbF, h.mlF, h.good, h.fb, h.ok.set hst hy, h.nz, h.z, h.xs⟩, Fr.setCell (Fr.refl _ _) (fun _ => hX) _ _⟩
  subst e
  rcases hk with e | e
  · exact h.a.nv (by rw [e]; rfl)
  · exact h.far _ (.inl rfl) e

theorem mvS_st_old {f : Nat → Nat} {st : Nat → Bool} {x : Nat} {S : MS} {p : Nat} (h : p < S.n) : (mvS f st x S).st p = S.st p := by
  unfold mvS
  split
  · exact also_old (by omega)
  · rfl
theorem fieldsS_keeps (f : Nat → Nat) (st : Nat → Bool) (first : Nat) (S : MS) : ∀ k, S.n ≤ (fieldsS f st first k S).n ∧ (∀ p, p < S.n → (fieldsS f st first k S).st p = S.st p) ∧ (∀ p, p < S.n → (p < first ∨ first + k ≤ p) → (fieldsS f st first k S).f p = S.f p)
  | 0 => ⟨Nat.le_refl _, fun _ _ => rfl, fun _ _ _ => rfl⟩
  | k + 1 => by
    obtain ⟨i1, i2, i3⟩ := fieldsS_keeps f st first S k
    have hg := mvS_grows (f := f) (st := st) (x := (fieldsS f st first k S).f (first + k)) (S := fieldsS f st first k S)
    refine ⟨by show S.n ≤ (mvS _ _ _ _).n; omega, fun p hp => ?_, fun p hp hq => ?_⟩
    · show (mvS _ _ _ _).st p = _
      rw [mvS_st_old (by omega)]
      exact i2 p hp
    · show upd (mvS _ _ _ _).f _ _ p = _
      rw [upd_other (by omega), hg.2.1 p (by omega)]
      exact i3 p hp (by omega)
theorem MSok.fields {n : Nat} {f : Nat → Nat} {st : Nat → Bool} {S : MS} (h : MSok n f st S) (hg : Good n f st) (hfb : ∀ i, i < n → f i < 18446744073709551616) (hn : n ≤ 1048576) {first count : Nat} (hc : first + count ≤ S.n) (hst : ∀ k, k < count → S.st (first + k) = false) : ∀ k, k ≤ count → MSok n f st (fieldsS f st first k S)
  | 0, _ => h
  | k + 1, hk => by
    have ih := MSok.fields h hg hfb hn hc hst k (by omega)
    obtain ⟨i1, i2, i3⟩ := fieldsS_keeps f st first S k
    have hlt : first + k < (fieldsS f st first k S).n := by omega
    refine (ih.mv hg hfb _).set ?_ (mvV_lt ih hg hfb hn (ih.fb _ hlt))
    rw [mvS_st_old hlt, i2 _ (by omega)]
    exact hst k (by omega)

set_option maxHeartbeats 4000000 in
theorem mfields_any (w : World) (hb : Nat) (X : Nat → Prop) (sz : Nat) (tm : Int) (n : Nat) (f : Nat → Nat) (st : Nat → Bool) (S : MS) (i first count : Nat) (h : Mov w hb X sz tm n f st S i) (hc : first + count ≤ S.n) (hst : ∀ k, k < count → S.st (first + k) = false) :
    Calls Try.prog 67 #[.agg #[.pointer (some ⟨hb, 2 * (1 - i), none⟩), .pointer (some ⟨hb, 2 * i, none⟩)], .int .i64 (first : Int), .int .i64 (count : Int)] w fun e w' => e = .returned (.tuple #[]) ∧ ∃ X2, Mov w' hb X2 sz tm n f st (fieldsS f st first count S) i ∧ Grows w.heap.size X X2 ∧ Fr X w w' := by
  have hbase : Good n f st ∧ (∀ i, i < n → f i < 18446744073709551616) ∧ n ≤ 1048576 ∧ MSok n f st S := by
    obtain ⟨v, u, v', u', m, s, m', s', h⟩ := h
    exact ⟨h.good, h.fb, Nat.le_trans h.nz h.z, h.ok⟩
  obtain ⟨hgd, hfb, hn, hok⟩ := hbase
  have HO := hide (hok.fields hgd hfb hn hc hst)
  have HK := hide (fieldsS_keeps f st first S)
  have hSn := hok.le hgd
  have hlt0 := hide (fun k hk => h.lt (k := k) hk)
  have H := hide h
  have HST := hide hst
  have HGD := hide hgd
  have HFB := hide hfb
  clear h hst hok hgd hfb
  go_enter Try.func67, Try.ntmps67
  go_wp2
  go_loopw [6] (fun a wr => ∃ (k : Nat) (Y : Nat → Prop), k ≤ count ∧ a = .int .i64 ((first + k : Nat) : Int) ∧ Mov wr hb Y sz tm n f st (fieldsS f st first k S) i ∧ Grows w.heap.size X Y ∧ ¬ Y w.heap.size ∧ Fr X w wr ∧ w.heap.size < wr.heap.size ∧ wr.cell? ⟨w.heap.size, 0, none⟩ = some (.pointer (some ⟨hb, 2 * (1 - i), none⟩)) ∧ wr.cell? ⟨w.heap.size, 1, none⟩ = some (.pointer (some ⟨hb, 2 * i, none⟩))) (fun a _ => first + count - (intOf a).toNat)
  case atStart =>
    exact ⟨0, X, Nat.zero_le _, rfl, H.out.fr (T := fun _ => False) ((Fr.refl _ _).alloc _) (fun _ _ e => e), Grows.refl _ _, (fun e => by have := hlt0.out _ e; omega), (Fr.refl _ _).alloc _, by simp, (mcells w _ _ _).1, (mcells w _ _ _).2⟩
  case round =>
    obtain ⟨k, Y, hk, rfl, hM, hG, hY, hF, hsz, hb0, hb1⟩ := hrel
    have hk1 := HK.out k
    by_cases hlt : k < count
    · have hpl : first + k < (fieldsS f st first k S).n := by omega
      have hokk := HO.out k (by omega)
      have hxl := hokk.fb _ hpl
      obtain ⟨place, hplE⟩ : ∃ place, place = first + k := ⟨_, rfl⟩
      have hstk : (fieldsS f st first k S).st place = false := by rw [hplE, hk1.2.1 _ (by omega)]; exact HST.out k hlt
      have hS' : fieldsS f st first (k + 1) S = (mvS f st ((fieldsS f st first k S).f place) (fieldsS f st first k S)).set place (mvV f st ((fieldsS f st first k S).f place) (fieldsS f st first k S)) := by rw [hplE]; rfl
      rw [← hplE] at hpl hxl ⊢
      have hplc : (place : Int) < (first : Int) + (count : Int) := by omega
      have HPL := hide hplE
      obtain ⟨Sk, hSk⟩ : ∃ Sk, Sk = fieldsS f st first k S := ⟨_, rfl⟩
      rw [← hSk] at hpl hxl hstk hM hokk hS'
      have hvl := mvV_lt hokk HGD.out HFB.out hn hxl
      have hle := hokk.le HGD.out
      clear hSk hk1 hplE
      obtain ⟨x, hxE⟩ : ∃ x, x = Sk.f place := ⟨_, rfl⟩
      rw [← hxE] at hS' hvl hxl
      have hpl2 : place < (mvS f st x Sk).n := Nat.lt_of_lt_of_le hpl mvS_grows.1
      have hst2 : (mvS f st x Sk).st place = false := by rw [mvS_st_old hpl]; exact hstk
      have KW := fun w1 (hf : Fr (fun _ => False) wr w1) => word_any w1 hb Y sz tm n f st Sk i x (hM.fr hf (fun _ _ e => e)) hxl
      have HM := hide hM
      obtain ⟨v, u, v', u', m, s, m', s', h⟩ := hM
      have hcv := h.a.cellv
      obtain ⟨g, cap, rfl, hc1, hc2, hcl⟩ := h.a.ov.rd hpl
      rw [← hxE] at hcl
      have HF' := hide hF
      have HS' := hide hS'
      have HX := hide hxl
      have HV := hide hvl
      have HST2 := hide hst2
      have HP2 := hide hpl2
      clear h hxE hS' hokk hstk hxl hvl hst2 hpl2
      obtain ⟨y, hyE⟩ : ∃ y, y = mvV f st x Sk := ⟨_, rfl⟩
      rw [← hyE] at KW HS' HV
      clear hyE
      go_wp2
      go_region_with (go_at_call 66; refine (KW _ ?_).mono ?_; exact (Fr.refl _ _).drew; rintro e w2 ⟨rfl, X2, M2, G2, F2⟩)
      all_goals
        have hb0' := (F2.cell (o := 0) (b := w.heap.size) hsz hY).trans hb0
        have hb1' := (F2.cell (o := 1) (b := w.heap.size) hsz hY).trans hb1
        obtain ⟨v2, u2, v2', u2', m2, s2, m2', s2', M2⟩ := M2
        have hcv2 := M2.a.cellv
        obtain ⟨g2, cap2, rfl, hc21, hc22, hcl2⟩ := M2.a.ov.rd HP2.out
        obtain ⟨q1, q2, q3, q4⟩ := M2.put HP2.out HST2.out HV.out
        have hpn2 : place < (mvS f st x Sk).n := HP2.out
        have Q3 := hide q3
        have Q4 := hide q4
        have HG2 := hide G2
        have HF2 := hide F2
        clear q3 q4 G2 F2 M2
        go_wp2
        have hX2 : ¬ X2 w.heap.size := fun e => by
          rcases HG2.out _ e with e | e
          · exact hY e
          · have e' : wr.heap.size ≤ w.heap.size := e
            omega
        have hsz2 : w.heap.size < w2.heap.size := Nat.lt_of_lt_of_le hsz HF2.out.size
        have hF3 : Fr X w w2 := HF'.out.drew.trans HF2.out fun k hk e => by
          rcases hG k e with e | e
          · exact e
          · omega
        have hF4 : Fr X w (w2.setCell ⟨g2, place, none⟩ (.int .u64 y)) := hF3.trans Q4.out fun k hk e => by
          have hws := HF'.out.size
          rcases HG2.out k e with e | e
          · rcases hG k e with e | e
            · exact e
            · omega
          · have e' : wr.heap.size ≤ k := e
            omega
        refine ⟨⟨k + 1, X2, by omega, ?_, ?_, hG.trans HG2.out HF'.out.size, hX2, hF4, Nat.lt_of_lt_of_le hsz2 Q4.out.size, (Q4.out.cell hsz2 hX2).trans hb0', (Q4.out.cell hsz2 hX2).trans hb1'⟩, ?_⟩
        · rw [show ((place : Int) + 1) = ((first + (k + 1) : Nat) : Int) by have := HPL.out; omega]
        · rw [HS'.out]
          exact ⟨_, _, _, _, _, _, _, _, Q3.out⟩
        · have := HPL.out
          simp [intOf]
          omega
    · have hkc : count = k := by omega
      subst hkc
      have HM := hide hM
      go_wp2
      go_end0
      exact ⟨rfl, Y, HM.out, hG, hF⟩

end Go.Proofs.Ytfeofdeffmnbkaa
