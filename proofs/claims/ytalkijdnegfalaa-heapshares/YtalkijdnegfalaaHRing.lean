/-
  What is proved here: plain facts on a ring of objects, and on what a collection makes of it; no walk.
-/
import Derived.Test.YtalkijdnegfalaaHGraph2
namespace Go.Proofs.Ytalkijdnegfalaa
open Go Go.RowKit

/-- So many objects of the ring, each behind one that is of no use. -/
structure Ring0 (k n : Nat) (f : Nat → Nat) (st : Nat → Bool) : Prop where
  len : n = 1 + 7 * k
  ob : ∀ i, i < k → st (5 + 7 * i) = true ∧ f (5 + 7 * i) = hOf 1 1 1 ∧ f (7 + 7 * i) = i + 100

theorem Ring0.zero : Ring0 0 1 (fun _ => 0) (fun _ => false) := ⟨rfl, fun i hi => by omega⟩

theorem Ring0.step {k n : Nat} {f : Nat → Nat} {st : Nat → Bool} (h : Ring0 k n f st) {n2 x : Nat} (hn2 : n2 = n + 4) (hx : x = k + 100) {j : Nat} (hj : j = 7 + 7 * k) {n3 : Nat} (hn3 : n3 = n2 + 3) :
    Ring0 (k + 1) n3 (upd (laid (laid f n (hOf 5 1 2)) n2 (hOf 1 1 1)) j x) (also (also st n) n2) := by
  have hl := h.len
  refine ⟨by omega, fun i hi => ?_⟩
  by_cases e : i = k
  · subst e
    have e2 : 5 + 7 * i = n2 := by omega
    refine ⟨by rw [e2]; exact also_new _ _, by rw [upd_other (by omega), e2]; exact laid_head _ _ _, by rw [hj, upd_same, hx]⟩
  · obtain ⟨o1, o2, o3⟩ := h.ob i (by omega)
    refine ⟨by rw [also_old (by omega), also_old (by omega)]; exact o1, by rw [upd_other (by omega), laid_old (by omega), laid_old (by omega)]; exact o2, by rw [upd_other (by omega), laid_old (by omega), laid_old (by omega)]; exact o3⟩

/-- The first k of them are linked. -/
structure Ring1 (N k n : Nat) (f : Nat → Nat) (st : Nat → Bool) : Prop where
  r0 : Ring0 N n f st
  link : ∀ i, i < k → f (6 + 7 * i) = 4 * (5 + 7 * ((i + 1) % N))

theorem Ring1.step {N k n : Nat} {f : Nat → Nat} {st : Nat → Bool} (h : Ring1 N k n f st) {j x : Nat} (hj : j = 6 + 7 * k) (hx : x = 4 * (5 + 7 * ((k + 1) % N))) : Ring1 N (k + 1) n (upd f j x) st := by
  refine ⟨⟨h.r0.len, fun i hi => ?_⟩, fun i hi => ?_⟩
  · obtain ⟨o1, o2, o3⟩ := h.r0.ob i hi
    exact ⟨o1, by rw [upd_other (by omega)]; exact o2, by rw [upd_other (by omega)]; exact o3⟩
  · by_cases e : i = k
    · rw [e, ← hj, upd_same, hx]
    · rw [upd_other (by omega)]
      exact h.link i (by omega)

theorem ring_ptr {k n : Nat} {f : Nat → Nat} {st : Nat → Bool} (h : Ring0 k n f st) {i : Nat} (hi : i < k) : isPtr st (4 * (5 + 7 * i)) = true ∧ 4 * (5 + 7 * i) / 4 = 5 + 7 * i := by
  have e : 4 * (5 + 7 * i) / 4 = 5 + 7 * i := by omega
  refine ⟨?_, e⟩
  unfold isPtr
  rw [e, (h.ob i hi).1]
  simp

theorem sum_ring {N n : Nat} {f : Nat → Nat} {st : Nat → Bool} (h : Ring0 N n f st) {b : Nat → Bool} (hb : ∀ p, b p = true ↔ ∃ i, i < N ∧ p = 5 + 7 * i) : ∀ k, k ≤ N → sumL f b (1 + 7 * k) = 3 * k
  | 0, _ => by
    have : ¬ b 0 = true := fun e => by
      obtain ⟨i, _, hi⟩ := (hb 0).1 e
      omega
    simp [sumL, this]
  | k + 1, hk => by
    have ih := sum_ring h hb k (by omega)
    have no : ∀ j, j < 7 → j ≠ 4 → ¬ b (1 + 7 * k + j) = true := fun j hj hj4 e => by
      obtain ⟨i, _, hi⟩ := (hb _).1 e
      omega
    have yes : b (1 + 7 * k + 4) = true := (hb _).2 ⟨k, by omega, by omega⟩
    have hL : hLen (f (1 + 7 * k + 4)) = 3 := by
      rw [show 1 + 7 * k + 4 = 5 + 7 * k by omega, (h.ob k (by omega)).2.1]
      rfl
    have e : 1 + 7 * (k + 1) = 1 + 7 * k + 7 := by omega
    rw [e]
    simp only [sumL]
    have n0 := no 0 (by omega) (by omega)
    have n1 := no 1 (by omega) (by omega)
    have n2 := no 2 (by omega) (by omega)
    have n3 := no 3 (by omega) (by omega)
    have n5 := no 5 (by omega) (by omega)
    have n6 := no 6 (by omega) (by omega)
    rw [Nat.add_zero] at n0
    rw [ih, if_neg n0, if_neg n1, if_neg n2, if_neg n3, if_pos yes, if_neg n5, if_neg n6, hL]
    omega

/-- What becomes of a ring that is held by two of its places. -/
theorem ring_coll {N n : Nat} {f : Nat → Nat} {st : Nat → Bool} (h : Ring1 N N n f st) (hN : 0 < N) (hg : Good n f st) (hfb : ∀ i, i < n → f i < 18446744073709551616) (hn : n ≤ 1048576) {x y : Nat} (hx : x < N) (hy : y < N) (r : Nat → Nat) (h0 : r 0 = 4 * (5 + 7 * x)) (h1 : r 1 = 9) (h2 : r 2 = 4 * (5 + 7 * y)) :
    (collS n f st r 3).n = 1 + 3 * N ∧
    (∀ i, i < N → isPtr (collS n f st r 3).st (4 * (collS n f st r 3).fw (5 + 7 * i)) = true ∧ 4 * (collS n f st r 3).fw (5 + 7 * i) / 4 = (collS n f st r 3).fw (5 + 7 * i) ∧ (collS n f st r 3).f ((collS n f st r 3).fw (5 + 7 * i)) = hOf 1 1 1 ∧ (collS n f st r 3).f ((collS n f st r 3).fw (5 + 7 * i) + 1) = 4 * (collS n f st r 3).fw (5 + 7 * ((i + 1) % N)) ∧ (collS n f st r 3).f ((collS n f st r 3).fw (5 + 7 * i) + 2) = i + 100 ∧ (collS n f st r 3).fw (5 + 7 * i) < 1048576) ∧
    (∀ i j, i < N → j < N → (4 * (collS n f st r 3).fw (5 + 7 * i) = 4 * (collS n f st r 3).fw (5 + 7 * j) ↔ i = j)) ∧
    mvV f st (r 0) (rootsS f st r 0 MS.zero) = 4 * (collS n f st r 3).fw (5 + 7 * x) ∧ mvV f st (r 1) (rootsS f st r 1 MS.zero) = 9 ∧ mvV f st (r 2) (rootsS f st r 2 MS.zero) = 4 * (collS n f st r 3).fw (5 + 7 * y) := by
  have hmod : ∀ i, (i + 1) % N < N := fun i => Nat.mod_lt _ hN
  have hR : ∀ p, (∃ i, i < N ∧ p = 5 + 7 * i) → st p = true → ∀ j, 1 ≤ j → j ≤ hTag (f p) → isPtr st (f (p + j)) = true → ∃ i, i < N ∧ f (p + j) / 4 = 5 + 7 * i := by
    rintro p ⟨i, hi, rfl⟩ _ j j1 j2 _
    rw [(h.r0.ob i hi).2.1] at j2
    have : j = 1 := by have : hTag (hOf 1 1 1) = 1 := rfl; omega
    subst this
    refine ⟨(i + 1) % N, hmod i, ?_⟩
    rw [show 5 + 7 * i + 1 = 6 + 7 * i by omega, h.link i hi]
    omega
  obtain ⟨ho, hG, hroot⟩ := coll_gr (R := fun p => ∃ i, i < N ∧ p = 5 + 7 * i) hg hfb hn hR r 3 (fun k hk hp => by
    rcases (show k = 0 ∨ k = 1 ∨ k = 2 by omega) with rfl | rfl | rfl
    · exact ⟨x, hx, by rw [h0]; omega⟩
    · rw [h1] at hp; simp [isPtr] at hp
    · exact ⟨y, hy, by rw [h2]; omega⟩)
  have hpx := ring_ptr h.r0 hx
  have hpy := ring_ptr h.r0 hy
  have ra := hroot 0 (by omega)
  have rb := hroot 1 (by omega)
  have rc := hroot 2 (by omega)
  rw [h0] at ra
  rw [h1] at rb
  rw [h2] at rc
  rw [h0, h1, h2]
  generalize hT : collS n f st r 3 = T at *
  have ex : mvF st T (4 * (5 + 7 * x)) = 4 * T.fw (5 + 7 * x) := by unfold mvF; rw [if_pos hpx.1, hpx.2]
  have ey : mvF st T (4 * (5 + 7 * y)) = 4 * T.fw (5 + 7 * y) := by unfold mvF; rw [if_pos hpy.1, hpy.2]
  have e9 : mvF st T 9 = 9 := by unfold mvF; rw [if_neg (by simp [isPtr])]
  have fld : ∀ i, i < N → T.fw (5 + 7 * i) ≠ 0 → T.f (T.fw (5 + 7 * i) + 1) = 4 * T.fw (5 + 7 * ((i + 1) % N)) ∧ T.fw (5 + 7 * ((i + 1) % N)) ≠ 0 := fun i hi hne => by
    obtain ⟨w1, w2, w3, w4⟩ := ho.went _ hne
    have hin := (ho.good.inn _ w3).2
    rw [w4, (h.r0.ob i hi).2.1] at hin
    have hL : hLen (hOf 1 1 1) = 3 := rfl
    obtain ⟨g1, g2⟩ := hG.new _ hne 1 (by omega) (by rw [(h.r0.ob i hi).2.1]; decide) (by omega)
    rw [show 5 + 7 * i + 1 = 6 + 7 * i by omega, h.link i hi] at g1 g2
    have hp := ring_ptr h.r0 (hmod i)
    have := g2 hp.1
    rw [hp.2] at this
    refine ⟨?_, this⟩
    rw [g1]
    unfold mvF
    rw [if_pos hp.1, hp.2]
  have hx0 : T.fw (5 + 7 * x) ≠ 0 := by
    have := ra.1 hpx.1
    rwa [hpx.2] at this
  have walk : ∀ m, T.fw (5 + 7 * ((x + m) % N)) ≠ 0 := fun m => by
    induction m with
    | zero => rw [Nat.add_zero, Nat.mod_eq_of_lt hx]; exact hx0
    | succ m ih =>
      have := (fld _ (Nat.mod_lt _ hN) ih).2
      rwa [Nat.mod_add_mod, Nat.add_assoc] at this
  have all : ∀ i, i < N → T.fw (5 + 7 * i) ≠ 0 := fun i hi => by
    have := walk (i + (N - x))
    rwa [show x + (i + (N - x)) = i + N by omega, Nat.add_mod_right, Nat.mod_eq_of_lt hi] at this
  refine ⟨?_, fun i hi => ?_, fun i j hi hj => ⟨fun e => ?_, fun e => by rw [e]⟩, by rw [ra.2, ex], by rw [rb.2, e9], by rw [rc.2, ey]⟩
  · rw [ho.sum, h.r0.len, sum_ring h.r0 (b := fun p => T.fw p != 0) (fun p => ⟨fun e => hG.sub p (by simpa using e), fun ⟨i, hi, e⟩ => by subst e; simpa using all i hi⟩) N (Nat.le_refl _)]
  · have hne := all i hi
    obtain ⟨w1, w2, w3, w4⟩ := ho.went _ hne
    have e4 : 4 * T.fw (5 + 7 * i) / 4 = T.fw (5 + 7 * i) := by omega
    have hle := ho.le hg
    refine ⟨?_, e4, by rw [w4]; exact (h.r0.ob i hi).2.1, (fld i hi hne).1, ?_, by omega⟩
    · unfold isPtr
      rw [e4, w3]
      simp
    · have := hG.raw _ hne 2 (by rw [(h.r0.ob i hi).2.1]; decide) (.inr (by rw [(h.r0.ob i hi).2.1]; decide))
      rw [this, show 5 + 7 * i + 2 = 7 + 7 * i by omega]
      exact (h.r0.ob i hi).2.2
  · have := hG.inj _ _ (all i hi) (show T.fw (5 + 7 * i) = T.fw (5 + 7 * j) by omega)
    omega

end Go.Proofs.Ytalkijdnegfalaa
