/-
  What is proved here: what is wrong bears an error: with fuel enough the model never tells none; no walk.
-/
import Derived.Test.YteipogfolnlblaaDoorUP
namespace Go.Proofs.YteipogfolnlblaaDoor
open Go Go.RowKit

def Tells {h : Nat} (R : RD h) : Prop := match R with
  | .inl q => q.er ≠ 0
  | .inr _ => True
theorem piece_er {n a : Nat} {l : List UInt8} (h : (pieceP n a l).k = 11) : (pieceP n a l).er ≠ 0 := by
  match l, h with
  | [], h => exact absurd h (by unfold pieceP tkP; simp)
  | c :: l, h =>
    have tk : ∀ (l : List UInt8) (x : Nat), (tokP x l).k ≠ 11 := fun l x => by
      unfold tokP tkP
      simp only []
      split <;> decide
    unfold pieceP at h ⊢
    simp only [] at h ⊢
    split
    · rename_i c1; rw [if_pos c1] at h; exact absurd h (by unfold tkP; simp)
    rename_i c1
    rw [if_neg c1] at h
    split
    · rename_i c1; rw [if_pos c1] at h; exact absurd h (by unfold tkP; simp)
    rename_i c1
    rw [if_neg c1] at h
    split
    · rename_i c1; rw [if_pos c1] at h; exact absurd h (by unfold tkP; simp)
    rename_i c1
    rw [if_neg c1] at h
    split
    · rename_i c1; rw [if_pos c1] at h; exact absurd h (by unfold tkP; simp)
    rename_i c1
    rw [if_neg c1] at h
    split
    · rename_i c1; rw [if_pos c1] at h; exact absurd h (by unfold tkP; simp)
    rename_i c1
    rw [if_neg c1] at h
    split
    · rename_i c1; rw [if_pos c1] at h; exact absurd h (by unfold tkP; simp)
    rename_i c1
    rw [if_neg c1] at h
    split
    · rename_i c1
      rw [if_pos c1] at h
      split at h <;> exact absurd h (by unfold tkP; simp)
    rename_i c1
    rw [if_neg c1] at h
    split
    · rename_i c1
      rw [if_pos c1] at h
      unfold shP at h ⊢
      split
      · rename_i g1
        rw [if_pos g1] at h
        match hc : comM (c :: l) 0 with
        | none => show (10 : Nat) ≠ 0; decide
        | some L => rw [hc] at h; exact absurd h (by unfold tkP; simp)
      rename_i g1
      rw [if_neg g1] at h
      split
      · rename_i g1; rw [if_pos g1] at h; exact absurd h (by unfold tkP; simp)
      rename_i g1
      rw [if_neg g1] at h
      split
      · rename_i g1; rw [if_pos g1] at h; exact absurd h (by unfold tkP; simp)
      rename_i g1
      rw [if_neg g1] at h
      split
      · rename_i g1; rw [if_pos g1] at h; exact absurd h (by unfold tkP; simp)
      · rename_i g1; rw [if_neg g1] at h; exact absurd h (tk _ _)
    · rename_i c1; rw [if_neg c1] at h; exact absurd h (tk _ _)
theorem esc_er {n a : Nat} {l : List UInt8} (h : (escP n a l).k = 11) : (escP n a l).er ≠ 0 := by
  unfold escP at h ⊢
  split
  · split
    · rename_i c1; simp only [if_pos c1] at h; exact absurd h (by unfold stP; simp)
    rename_i c1
    simp only [if_neg c1] at h
    split
    · rename_i c1; simp only [if_pos c1] at h; exact absurd h (by unfold stP; simp)
    rename_i c1
    simp only [if_neg c1] at h
    split
    · rename_i c1; simp only [if_pos c1] at h; exact absurd h (by unfold stP; simp)
    rename_i c1
    simp only [if_neg c1] at h
    split
    · rename_i c1; simp only [if_pos c1] at h; exact absurd h (by unfold stP; simp)
    rename_i c1
    simp only [if_neg c1] at h
    split
    · rename_i c1
      simp only [if_pos c1] at h
      unfold hexeP at h ⊢
      split
      · show (10 : Nat) ≠ 0; decide
      rename_i c2
      rw [if_neg c2] at h
      split
      · rename_i c3; rw [if_pos c3] at h; exact absurd h (by unfold stP; simp)
      · show (13 : Nat) ≠ 0; decide
    · show (13 : Nat) ≠ 0; decide
  · show (10 : Nat) ≠ 0; decide
theorem quo_er (T : List UInt8) (x : Nat) : ∀ (f a : Nat) (acc : List UInt8), T.length + 1 ≤ f + a → a ≤ T.length → (quoP T x f a acc).k = 11 → (quoP T x f a acc).er ≠ 0
  | 0, a, acc, hf, ha, _ => by omega
  | f + 1, a, acc, hf, ha, h => by
    unfold quoP at h ⊢
    match hd : T.drop a with
    | [] => show (10 : Nat) ≠ 0; decide
    | c :: l =>
      have hal : a < T.length := by
        rcases Nat.lt_or_ge a T.length with h | h
        · exact h
        · rw [List.drop_eq_nil_of_le h] at hd; cases hd
      rw [hd] at h
      simp only [] at h ⊢
      split
      · rename_i c1; rw [if_pos c1] at h; exact absurd h (by simp)
      rename_i c1
      rw [if_neg c1] at h
      split
      · rename_i c2
        rw [if_pos c2] at h
        split
        · rename_i c3; exact esc_er c3
        · rename_i c3
          rw [if_neg c3] at h
          have he := escP_ok T.length a (c :: l)
          have hl : (c :: l).length = T.length - a := by rw [← hd, List.length_drop]
          rw [hl] at he
          rcases he with he | he
          · exact absurd he.1 c3
          · exact quo_er T x f _ _ (by omega) (by omega) h
      · rename_i c2
        rw [if_neg c2] at h
        exact quo_er T x f (a + 1) _ (by omega) (by omega) h
structure ErOK (n f : Nat) {h : Nat} (r : RM h) : Prop where
  nx : ∀ ps a, a ≤ n → 3 * (n - a) + 2 ≤ f → (r.nx ps a).k = 11 → (r.nx ps a).er ≠ 0
  dt : ∀ p, PieceOK n p → p.k ≠ 1 → p.k ≠ 2 → (p.k = 11 → p.er ≠ 0) → (((p.k = 0 ∨ p.k = 11) ∧ 1 ≤ f) ∨ 3 * (n - p.a) + 4 ≤ f) → Tells (r.dt p)
  rw : ∀ x k I a, a ≤ n → 3 * (n - a) + 3 ≤ f → Tells (r.rw x k I a)
/-- A datum from a place on. -/
theorem nd_er {T : List UInt8} {f h a : Nat} (ih : ErOK T.length f (rdM T f h)) (ha : a ≤ T.length) (hf : 3 * (T.length - a) + 2 ≤ f) : Tells ((rdM T f h).dt ((rdM T f h).nx 0 a)) := by
  have hn := (rdM_ok T f h).1 0 a ha
  refine ih.dt _ hn.1.1 hn.1.2.1 hn.1.2.2 (ih.nx 0 a ha hf) ?_
  by_cases k0 : ((rdM T f h).nx 0 a).k = 0
  · exact .inl ⟨.inl k0, by omega⟩
  by_cases k1 : ((rdM T f h).nx 0 a).k = 11
  · exact .inl ⟨.inr k1, by omega⟩
  have := hn.2 k1
  have := this.2.2 k0
  exact .inr (by omega)
theorem er_all (T : List UInt8) : ∀ (f h : Nat), ErOK T.length f (rdM T f h)
  | 0, h => ⟨fun ps a _ hf _ => by omega, fun p _ _ _ _ hf => by omega, fun x k I a _ hf => by omega⟩
  | f + 1, h => by
    have ih := er_all T f
    have ok := rdM_ok T f
    refine ⟨fun ps a ha hf hk => ?_, fun p hp k1 k2 h11 hf => ?_, fun x k I a ha hf => ?_⟩
    · have hP := piece_ok T.length a (T.drop a) List.length_drop ha
      have hk : (nxS T (rdM T f h) ps a).k = 11 := hk
      show (nxS T (rdM T f h) ps a).er ≠ 0
      have her := piece_er (n := T.length) (a := a) (l := T.drop a)
      unfold nxS at hk ⊢
      generalize pieceP T.length a (T.drop a) = q0 at *
      by_cases c1 : q0.k = 1
      · rw [if_pos c1] at hk ⊢
        have := hP.2.2.2 (by omega) (by omega)
        exact (ih h).nx ps _ hP.2.2.1 (by omega) hk
      rw [if_neg c1] at hk ⊢
      by_cases c2 : q0.k = 2
      · rw [if_pos c2] at hk ⊢
        have := hP.2.2.2 (by omega) (by omega)
        exact (ih h).nx _ _ hP.2.2.1 (by omega) hk
      rw [if_neg c2] at hk ⊢
      by_cases c3 : 0 < ps
      · rw [if_pos c3] at hk ⊢
        have hd := (ok h).2.1 q0 hP.1 c1 c2
        have ht := (ih h).dt q0 hP.1 c1 c2 her (by
          by_cases k0 : q0.k = 0
          · exact .inl ⟨.inl k0, by omega⟩
          by_cases k11 : q0.k = 11
          · exact .inl ⟨.inr k11, by omega⟩
          have := hP.2.2.2 k0 k11
          exact .inr (by omega))
        match hr : (rdM T f h).dt q0 with
        | .inl q => rw [hr] at ht; exact ht
        | .inr (x2, y2, tr2, a2) =>
          rw [hr] at hk hd
          have hg := dt_good hr
          have := hP.2.2.2 hg.1 hg.2.1
          have h2 := hd.1
          exact (ih h).nx (ps - 1) a2 hd.2.1 (by omega) hk
      · rw [if_neg c3] at hk ⊢
        exact her hk
    · show Tells (dtS T (rdM T f) h p)
      unfold dtS
      by_cases c0 : p.k = 0
      · rw [if_pos c0]; show (10 : Nat) ≠ 0; decide
      rw [if_neg c0]
      by_cases c4 : p.k = 4
      · rw [if_pos c4]; show (11 : Nat) ≠ 0; decide
      rw [if_neg c4]
      by_cases c8 : p.k = 8
      · rw [if_pos c8]; show (15 : Nat) ≠ 0; decide
      rw [if_neg c8]
      by_cases c11 : p.k = 11
      · rw [if_neg (by omega), if_neg (by omega), if_neg (by omega), if_neg (by omega)]
        exact h11 c11
      have hf' : 3 * (T.length - p.a) + 4 ≤ f + 1 := by
        rcases hf with hf | hf
        · omega
        · exact hf
      obtain ⟨hpa, hpy, hpx, hp7⟩ := hp.at c11
      by_cases c35 : p.k = 3 ∨ p.k = 5
      · rw [if_pos c35]
        cases h with
        | zero => show (16 : Nat) ≠ 0; decide
        | succ h' =>
          show Tells (nestM T (rdM T f h') p)
          unfold nestM
          split
          · exact (ih h').rw _ _ _ _ hpa (by omega)
          split
          · exact (ih h').rw _ _ _ _ hpa (by omega)
          · have ht := nd_er (ih h') hpa (by omega)
            unfold abM
            match hr : (rdM T f h').dt ((rdM T f h').nx 0 p.a) with
            | .inl q => rw [hr] at ht; exact ht
            | .inr (x2, y2, tr2, a2) => trivial
      rw [if_neg c35]
      by_cases c6 : p.k = 6
      · rw [if_pos c6]
        unfold ofLP
        split
        · rename_i hk; exact quo_er T p.x (T.length + 1) p.a [] (by omega) hpa hk
        · trivial
      rw [if_neg c6]
      by_cases c7 : p.k = 7
      · rw [if_pos c7]
        unfold ofLP
        split
        · rename_i hk
          show (letP T p.x p.y p.a).er ≠ 0
          unfold letP at hk ⊢
          split
          · show (14 : Nat) ≠ 0; decide
          · rename_i hs
            rw [hs] at hk
            exact absurd hk (by simp)
        · trivial
      rw [if_neg c7]
      by_cases c9 : p.k = 9
      · rw [if_pos c9]
        unfold atomR
        split
        · show (12 : Nat) ≠ 0; decide
        · trivial
      · exfalso
        rcases hp with h | ⟨x, L, k, rfl, h1, h2, h3, h4, h5⟩
        · exact c11 h
        · have e : (tkP x L k).k = k := rfl
          rw [e] at c0 k1 k2 c4 c8 c35 c6 c7 c9
          omega
    · show Tells (rwS (rdM T f h) x k I a)
      have hn := (ok h).1 0 a ha
      have ht := nd_er (ih h) ha (by omega)
      unfold rwS
      split
      · trivial
      split
      · rename_i c4 c8
        have h1 := hn.2 (by omega)
        have h2 := h1.2.2 (by omega)
        have ha2 := h1.2.1
        generalize ((rdM T f h).nx 0 a).a = a2 at *
        unfold dotM
        split
        · show (15 : Nat) ≠ 0; decide
        · have ht2 := nd_er (ih h) ha2 (by omega)
          match hr : (rdM T f h).dt ((rdM T f h).nx 0 a2) with
          | .inl q => rw [hr] at ht2; exact ht2
          | .inr (x3, y3, tr3, a3) =>
            have h3 := (nd_ok (ok h) ha2).2 _ _ _ _ hr
            simp only []
            split
            · trivial
            · split
              · rename_i c5 c6
                have ht3 := nd_er (ih h) h3.2.1 (by omega)
                match hr3 : (rdM T f h).dt ((rdM T f h).nx 0 a3) with
                | .inl q => rw [hr3] at ht3; exact ht3
                | .inr v =>
                  exfalso
                  have hg := dt_good hr3
                  rcases c6 with c6 | c6
                  · exact hg.1 c6
                  · exact hg.2.1 c6
              · show (15 : Nat) ≠ 0; decide
      · match hr : (rdM T f h).dt ((rdM T f h).nx 0 a) with
        | .inl q => rw [hr] at ht; exact ht
        | .inr (x3, y3, tr3, a3) =>
          have h3 := (nd_ok (ok h) ha).2 _ _ _ _ hr
          have hg := dt_good hr
          have h1 := hn.2 hg.2.1
          have h2 := h1.2.2 hg.1
          have h4 := ((ok h).2.1 _ hn.1.1 hn.1.2.1 hn.1.2.2)
          rw [hr] at h4
          have h5 := h4.1
          exact (ih h).rw x k _ a3 h3.2.1 (by omega)
/-- All tells an error where it tells one. -/
theorem allR_er {T : List UInt8} {F h : Nat} (hF : 3 * T.length + 4 ≤ F) : ∀ (g a : Nat) (I : List (Tr (h + 1))) (q : LP), a ≤ T.length → T.length + 1 ≤ g + a → allR (rdM T F h) g a I = .inl q → q.er ≠ 0
  | 0, a, I, q, ha, hg, _ => by omega
  | g + 1, a, I, q, ha, hg, e => by
    unfold allR at e
    split at e
    · cases e
    · have ht := nd_er (er_all T F h) ha (by omega)
      have hok := nd_ok (rdM_ok T F h) ha
      match hr : (rdM T F h).dt ((rdM T F h).nx 0 a) with
      | .inl q' =>
        rw [hr] at ht e
        simp only [Sum.inl.injEq] at e
        rw [← e]
        exact ht
      | .inr (x, y, tr, a') =>
        rw [hr] at e
        have h3 := hok.2 _ _ _ _ hr
        have hn := (rdM_ok T F h).1 0 a ha
        have hgd := dt_good hr
        have h1 := (hn.2 hgd.2.1).2.2 hgd.1
        have h4 := (rdM_ok T F h).2.1 _ hn.1.1 hn.1.2.1 hn.1.2.2
        rw [hr] at h4
        have h5 := h4.1
        exact allR_er hF g a' _ q h3.2.1 (by omega) e

end Go.Proofs.YteipogfolnlblaaDoor
