/-
  What is proved here: the document's own heap: the state of a collection, and how a move and a store turn it.
-/
import Derived.Test.YtfeofdeffmnbkaaHRMove2
import Derived.Test.YtfeofdeffmnbkaaHAll
namespace Go.Proofs.Ytfeofdeffmnbkaa
open Go Go.RowKit

/-- A collection under way: the old heap at rb, the new one at nb, where each object went in the row tb. -/
structure Coll (w : World) (rb : Nat) (Y : Nat → Prop) (sz : Nat) (tm : Int) (n : Nat) (f : Nat → Nat) (st : Nat → Bool) (hn : Nat) (hd : Nat → Nat) (nb : Nat) (Z : Nat → Prop) (tmN : Int) (S : MS) (hn2 : Nat) (hd2 : Nat → Nat) (tb : Nat) : Prop where
  src : ∃ vW vH, RefIn w rb Y sz tm n f st vW vH hn hd
  tgt : ∃ vW vH, RefIn w nb Z sz tmN S.n S.f S.st vW vH hn2 hd2
  ok : MSok n f st S
  to : RowAt .i64 3 w tb hn hn (fun k => S.fw (hd k))
  yz : ∀ k, Y k → ¬ Z k
  yt : ¬ Y tb
  zt : ¬ Z tb

theorem Coll.fr {T : Nat → Prop} {w w2 : World} {rb : Nat} {Y : Nat → Prop} {sz : Nat} {tm : Int} {n : Nat} {f : Nat → Nat} {st : Nat → Bool} {hn : Nat} {hd : Nat → Nat} {nb : Nat} {Z : Nat → Prop} {tmN : Int} {S : MS} {hn2 : Nat} {hd2 : Nat → Nat} {tb : Nat} (h : Coll w rb Y sz tm n f st hn hd nb Z tmN S hn2 hd2 tb) (hf : Fr T w w2) (hs : ∀ k, (Y k ∨ Z k ∨ k = tb) → ¬ T k) : Coll w2 rb Y sz tm n f st hn hd nb Z tmN S hn2 hd2 tb := by
  obtain ⟨⟨vW, vH, a⟩, ⟨vW2, vH2, b⟩, c, d, e1, e2, e3⟩ := h
  exact ⟨⟨vW, vH, a.fr hf fun k hk => hs k (.inl hk)⟩, ⟨vW2, vH2, b.fr hf fun k hk => hs k (.inr (.inl hk))⟩, c, d.fr hf (hs tb (.inr (.inr rfl))), e1, e2, e3⟩
theorem Coll.base {w : World} {rb : Nat} {Y : Nat → Prop} {sz : Nat} {tm : Int} {n : Nat} {f : Nat → Nat} {st : Nat → Bool} {hn : Nat} {hd : Nat → Nat} {nb : Nat} {Z : Nat → Prop} {tmN : Int} {S : MS} {hn2 : Nat} {hd2 : Nat → Nat} {tb : Nat} (h : Coll w rb Y sz tm n f st hn hd nb Z tmN S hn2 hd2 tb) : Good n f st ∧ (∀ i, i < n → f i < 18446744073709551616) ∧ n ≤ sz ∧ sz ≤ 1048576 ∧ S.n ≤ n ∧ hn2 ≤ S.n := by
  obtain ⟨⟨vW, vH, a⟩, ⟨vW2, vH2, b⟩, c, d, e1, e2, e3⟩ := h
  exact ⟨a.good, a.fb, a.nz, a.z, c.le a.good, b.hnl⟩
theorem Coll.ltZ {w : World} {rb : Nat} {Y : Nat → Prop} {sz : Nat} {tm : Int} {n : Nat} {f : Nat → Nat} {st : Nat → Bool} {hn : Nat} {hd : Nat → Nat} {nb : Nat} {Z : Nat → Prop} {tmN : Int} {S : MS} {hn2 : Nat} {hd2 : Nat → Nat} {tb : Nat} (h : Coll w rb Y sz tm n f st hn hd nb Z tmN S hn2 hd2 tb) : (∀ k, Y k → k < w.heap.size) ∧ (∀ k, Z k → k < w.heap.size) ∧ tb < w.heap.size := by
  obtain ⟨⟨vW, vH, a⟩, ⟨vW2, vH2, b⟩, c, d, e1, e2, e3⟩ := h
  exact ⟨fun k hk => RefAt.lt ⟨_, _, _, _, a⟩ hk, fun k hk => RefAt.lt ⟨_, _, _, _, b⟩ hk, d.lt⟩

theorem rmove_any (w : World) (rb : Nat) (Y : Nat → Prop) (sz : Nat) (tm : Int) (n : Nat) (f : Nat → Nat) (st : Nat → Bool) (hn : Nat) (hd : Nat → Nat) (nb : Nat) (Z : Nat → Prop) (tmN : Int) (S : MS) (hn2 : Nat) (hd2 : Nat → Nat) (tb : Nat) (h : Coll w rb Y sz tm n f st hn hd nb Z tmN S hn2 hd2 tb) (x : Nat) (hx : x < 18446744073709551616) :
    Calls Try.prog 63 #[.pointer (some ⟨rb, 0, none⟩), .pointer (some ⟨nb, 0, none⟩), .slice (some ⟨tb, 0, none⟩) hn hn, .int .u64 (x : Int)] w fun e w' => e = .returned (.int .u64 (mvV f st x S : Int)) ∧ ∃ Z2 hn3 hd3, Coll w' rb Y sz tm n f st hn hd nb Z2 tmN (mvS f st x S) hn3 hd3 tb ∧ hn2 ≤ hn3 ∧ (∀ k, k < hn2 → hd3 k = hd2 k) ∧ Grows w.heap.size Z Z2 ∧ Fr (fun k => Z k ∨ k = tb) w w' := by
  have hlt := h.ltZ
  have hH := h
  obtain ⟨⟨vW, vH, a⟩, ⟨vW2, vH2, b⟩, c, d, e1, e2, e3⟩ := h
  cases hp : isPtr st x with
  | false =>
    rw [mvV_no hp, mvS_no hp]
    exact (rmove_no w rb Y sz tm n f st x ⟨_, _, _, _, a⟩ nb tb hn hx hp).mono fun e w' he => ⟨he.1, Z, hn2, hd2, by rw [he.2]; exact hH, Nat.le_refl _, fun _ _ => rfl, Grows.refl _ _, by rw [he.2]; exact Fr.refl _ _⟩
  | true =>
    by_cases h0 : S.fw (x / 4) = 0
    · rw [mvV_copy hp h0, mvS_copy hp h0]
      refine (rmove_copy w rb Y sz tm n f st vW vH hn hd a nb Z tmN S vW2 vH2 hn2 hd2 b c tb d e1 e2 e3 x (x / 4) hx hp rfl h0).mono ?_
      rintro e w' ⟨rfl, Z2, vW3, vH3, r1, r2, r3, r4⟩
      refine ⟨rfl, Z2, hn2 + 1, _, ⟨⟨vW, vH, a.fr r4 fun k hk e => ?_⟩, ⟨vW3, vH3, r1⟩, c.copy a.good a.fb (isPtr_st hp).1 h0, r2, fun k hk e => ?_, e2, fun e => ?_⟩, Nat.le_succ _, fun k hk => upd_other (by omega), r3, r4⟩
      · rcases e with e | e
        · exact e1 k hk e
        · exact e2 (by rw [← e]; exact hk)
      · rcases r3 k e with e | e
        · exact e1 k hk e
        · have := hlt.1 k hk; omega
      · rcases r3 tb e with e | e
        · exact e3 e
        · have := hlt.2.2; omega
    · rw [mvV_same hp h0, mvS_same h0]
      have hw : S.fw (x / 4) ≤ 1048576 := by
        have h1 := (c.went _ h0).2.1
        have h2 := c.le a.good
        have := a.nz
        have := a.z
        omega
      exact (rmove_same w rb Y sz tm n f st vW vH hn hd a nb tb S.fw d x hx hp h0 hw).mono fun e w' he => ⟨he.1, Z, hn2, hd2, by rw [he.2]; exact hH, Nat.le_refl _, fun _ _ => rfl, Grows.refl _ _, by rw [he.2]; exact Fr.refl _ _⟩

/-- A word of the new heap is set. -/
theorem Coll.put {w : World} {rb : Nat} {Y : Nat → Prop} {sz : Nat} {tm : Int} {n : Nat} {f : Nat → Nat} {st : Nat → Bool} {hn : Nat} {hd : Nat → Nat} {nb : Nat} {Z : Nat → Prop} {tmN : Int} {S : MS} {hn2 : Nat} {hd2 : Nat → Nat} {tb : Nat} (h : Coll w rb Y sz tm n f st hn hd nb Z tmN S hn2 hd2 tb) {j y : Nat} (hj : j < S.n) (hst : S.st j = false) (hy : y < 18446744073709551616) :
    ∃ g cap, w.cell? ⟨nb, 1, none⟩ = some (.slice (some ⟨g, 0, none⟩) S.n cap) ∧ S.n ≤ cap ∧ cap ≤ 9223372036854775807 ∧ w.cell? ⟨g, j, none⟩ = some (.int .u64 (S.f j)) ∧ w.frozen? ⟨g, j, none⟩ = false ∧ Coll (w.setCell ⟨g, j, none⟩ (.int .u64 y)) rb Y sz tm n f st hn hd nb Z tmN (S.set j y) hn2 hd2 tb ∧ Fr Z w (w.setCell ⟨g, j, none⟩ (.int .u64 y)) := by
  obtain ⟨⟨vW, vH, a⟩, ⟨vW2, vH2, b⟩, c, d, e1, e2, e3⟩ := h
  have hc := b.cells.2.1
  obtain ⟨g, cap, rfl, hc1, hc2, _⟩ := b.oW.rd hj
  obtain ⟨q1, q2, q3, q4⟩ := b.put hj hst hy
  refine ⟨g, cap, hc, hc1, hc2, q1, q2, ⟨⟨vW, vH, a.fr q4 e1⟩, ⟨_, _, q3⟩, c.set hst hy, d.fr q4 e3, e1, e2, e3⟩, q4⟩

/-- Where the copies lie: each behind the one before. -/
theorem Coll.next {w : World} {rb : Nat} {Y : Nat → Prop} {sz : Nat} {tm : Int} {n : Nat} {f : Nat → Nat} {st : Nat → Bool} {hn : Nat} {hd : Nat → Nat} {nb : Nat} {Z : Nat → Prop} {tmN : Int} {S : MS} {hn2 : Nat} {hd2 : Nat → Nat} {tb : Nat} (h : Coll w rb Y sz tm n f st hn hd nb Z tmN S hn2 hd2 tb) {i : Nat} (hi : i < hn2) : S.st (hd2 i) = true ∧ ((i + 1 < hn2 ∧ hd2 (i + 1) = hd2 i + hLen (S.f (hd2 i))) ∨ (i + 1 = hn2 ∧ S.n = hd2 i + hLen (S.f (hd2 i)))) := by
  obtain ⟨_, ⟨vW2, vH2, b⟩, c, _, _, _, _⟩ := h
  have hst := (b.heads _).2 ⟨i, hi, rfl⟩
  have hL : 1 ≤ hLen (S.f (hd2 i)) := by unfold hLen; omega
  refine ⟨hst, ?_⟩
  by_cases hl : i + 1 < hn2
  · have hst2 := (b.heads _).2 ⟨i + 1, hl, rfl⟩
    have h1 := c.good.apart _ _ hst hst2 (b.inc i (i + 1) (by omega) hl)
    refine .inl ⟨hl, ?_⟩
    rcases c.next _ hst with e | e
    · have := c.good.lt hst2; omega
    · obtain ⟨k, hk, hkE⟩ := (b.heads _).1 e
      rcases Nat.lt_or_ge k (i + 1) with c1 | c1
      · by_cases c2 : k = i
        · subst c2; omega
        · have := b.inc k i (by omega) hi; omega
      · by_cases c2 : k = i + 1
        · rw [← c2]; exact hkE
        · have := b.inc (i + 1) k (by omega) hk; omega
  · refine .inr ⟨by omega, ?_⟩
    rcases c.next _ hst with e | e
    · exact e.symm
    · obtain ⟨k, hk, hkE⟩ := (b.heads _).1 e
      by_cases c2 : k = i
      · subst c2; omega
      · have := b.inc k i (by omega) hi; omega
theorem Coll.first {w : World} {rb : Nat} {Y : Nat → Prop} {sz : Nat} {tm : Int} {n : Nat} {f : Nat → Nat} {st : Nat → Bool} {hn : Nat} {hd : Nat → Nat} {nb : Nat} {Z : Nat → Prop} {tmN : Int} {S : MS} {hn2 : Nat} {hd2 : Nat → Nat} {tb : Nat} (h : Coll w rb Y sz tm n f st hn hd nb Z tmN S hn2 hd2 tb) : (0 < hn2 ∧ hd2 0 = 1) ∨ (hn2 = 0 ∧ S.n = 1) := by
  obtain ⟨_, ⟨vW2, vH2, b⟩, c, _, _, _, _⟩ := h
  rcases c.first with e | e
  · by_cases h0 : hn2 = 0
    · exact .inr ⟨h0, e⟩
    · have hst := (b.heads _).2 ⟨0, by omega, rfl⟩
      have h1 := c.good.lt hst
      have h2 := (c.good.inn _ hst).1
      omega
  · obtain ⟨k, hk, hkE⟩ := (b.heads _).1 e
    refine .inl ⟨by omega, ?_⟩
    by_cases c2 : k = 0
    · rw [c2] at hkE; exact hkE
    · have hst := (b.heads _).2 ⟨0, by omega, rfl⟩
      have h2 := (c.good.inn _ hst).1
      have := b.inc 0 k (by omega) hk
      omega

end Go.Proofs.Ytfeofdeffmnbkaa
