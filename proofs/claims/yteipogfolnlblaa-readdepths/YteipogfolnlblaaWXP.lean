/-
  What is proved here: a list that was read has no more items than bytes; data, one level up; no walk.
-/
import Derived.Test.YteipogfolnlblaaWXN
namespace Go.Proofs.Yteipogfolnlblaa
open Go Go.RowKit
def itN {h : Nat} (tr : Tr (h + 1)) : Nat := tr.2.2.2.2.2.1.length

theorem itN_seq {h : Nat} (k : Int) (I R : List (Tr h)) : itN (seqT k I R) = I.length := rfl

theorem itN_lf (h : Nat) (x : Lf) : itN (lfT h x) = 0 := rfl

theorem itN_join {h : Nat} (I : List (Tr (h + 1))) (tr : Tr (h + 1)) : itN (joinT I tr) ≤ I.length + itN tr := by
  obtain ⟨k, n, b, L, t, J, R⟩ := tr
  unfold joinT
  simp only []
  split
  · rw [itN_seq]
    simp [itN]
  · rw [itN_seq]
    omega

/-- A datum of the next piece: the reader has gone on. -/
theorem nd_lt {T : List UInt8} {f h a : Nat} (hf : 1 ≤ f) (ha : a ≤ T.length) {x y : Nat} {tr : Tr (h + 1)} {a' : Nat} (e : (rdM T f h).dt ((rdM T f h).nx 0 a) = .inr (x, y, tr, a')) : a < ((rdM T f h).nx 0 a).a ∧ ((rdM T f h).nx 0 a).a ≤ a' ∧ a' ≤ T.length := by
  have ih := rdM_ok T f h
  have hn := ih.1 0 a ha
  have hd := ih.2.1 _ hn.1.1 hn.1.2.1 hn.1.2.2
  obtain ⟨g, rfl⟩ : ∃ g, f = g + 1 := ⟨f - 1, by omega⟩
  have k0 : ((rdM T (g + 1) h).nx 0 a).k ≠ 0 := fun e0 => by
    have e' : dtS T (rdM T g) h ((rdM T (g + 1) h).nx 0 a) = .inr (x, y, tr, a') := e
    unfold dtS at e'
    rw [if_pos e0] at e'
    cases e'
  have k11 : ((rdM T (g + 1) h).nx 0 a).k ≠ 11 := fun e0 => by
    obtain ⟨q, hq⟩ := dt_bad T (g + 1) h _ e0
    rw [hq] at e
    cases e
  rw [e] at hd
  exact ⟨(hn.2 k11).2.2 k0, hd.1, hd.2.1⟩

theorem rdM_items (T : List UInt8) : ∀ (f h : Nat),
    (∀ p x y tr a', PieceOK T.length p → p.k ≠ 1 → p.k ≠ 2 → (rdM T f h).dt p = .inr (x, y, tr, a') → itN tr ≤ (a' - p.a) + 1) ∧
    (∀ x k I a x2 y2 tr a', a ≤ T.length → (rdM T f h).rw x k I a = .inr (x2, y2, tr, a') → itN tr ≤ I.length + (a' - a))
  | 0, h => ⟨fun p x y tr a' _ _ _ e => (by cases e), fun x k I a x2 y2 tr a' _ e => (by cases e)⟩
  | f + 1, h => by
    have ih := rdM_items T f
    refine ⟨fun p x y tr a' hp k1 k2 e => ?_, fun x k I a x2 y2 tr a' ha e => ?_⟩
    · replace e : dtS T (rdM T f) h p = .inr (x, y, tr, a') := e
      unfold dtS at e
      split at e
      · cases e
      split at e
      · cases e
      split at e
      · cases e
      rename_i k0 k4 k8
      split at e
      · unfold inM at e
        split at e
        · cases e
        · rename_i h' 
          by_cases k11 : p.k = 11
          · omega
          obtain ⟨hpa, -⟩ := hp.at k11
          unfold nestM at e
          split at e
          · have := (ih h').2 _ _ _ _ _ _ _ _ hpa e
            simp only [List.length_nil] at this
            omega
          split at e
          · have := (ih h').2 _ _ _ _ _ _ _ _ hpa e
            simp only [List.length_nil] at this
            omega
          · unfold abM at e
            match hr : (rdM T f h').dt ((rdM T f h').nx 0 p.a) with
            | .inl q => rw [hr] at e; cases e
            | .inr (x3, y3, tr3, a3) =>
              rw [hr] at e
              have hf : 1 ≤ f := by
                match f, hr with
                | 0, hr => cases hr
                | f + 1, _ => omega
              have := nd_lt hf hpa hr
              cases e
              rw [itN_seq]
              simp only [List.length_cons, List.length_nil]
              omega
      split at e
      · unfold ofLP at e
        split at e
        · cases e
        · cases e; rw [itN_lf]; omega
      split at e
      · unfold ofLP at e
        split at e
        · cases e
        · cases e; rw [itN_lf]; omega
      split at e
      · unfold atomR at e
        split at e
        · cases e
        · cases e; rw [itN_lf]; omega
      · cases e
    · replace e : rwS (rdM T f h) x k I a = .inr (x2, y2, tr, a') := e
      have hn := (rdM_ok T f h).1 0 a ha
      unfold rwS at e
      split at e
      · cases e; rw [itN_seq]; omega
      split at e
      · rename_i c4 c8
        have g1 := hn.2 (by omega)
        have g2 := g1.2.2 (by omega)
        generalize ((rdM T f h).nx 0 a).a = a2 at *
        have ha2 : a2 ≤ T.length := g1.2.1
        unfold dotM at e
        split at e
        · cases e
        · match hr : (rdM T f h).dt ((rdM T f h).nx 0 a2) with
          | .inl q => rw [hr] at e; cases e
          | .inr (x3, y3, tr3, a3) =>
            rw [hr] at e
            dsimp only at e
            have hf : 1 ≤ f := by
              match f, hr with
              | 0, hr => cases hr
              | f + 1, _ => omega
            have h3 := nd_lt hf ha2 hr
            have hn3 := (rdM_ok T f h).1 0 a3 h3.2.2
            have hq := (rdM_ok T f h).1 0 a2 ha2
            have hi := (ih h).1 _ _ _ _ _ hq.1.1 hq.1.2.1 hq.1.2.2 hr
            split at e
            · cases e
              have h5 := hn3.2 (by omega)
              have h6 := itN_join I tr3
              omega
            · split at e
              · split at e <;> cases e
              · cases e
      · match hr : (rdM T f h).dt ((rdM T f h).nx 0 a) with
        | .inl q => rw [hr] at e; cases e
        | .inr (x3, y3, tr3, a3) =>
          rw [hr] at e
          dsimp only at e
          have hf : 1 ≤ f := by
            match f, hr with
            | 0, hr => cases hr
            | f + 1, _ => omega
          have h3 := nd_lt hf ha hr
          have h4 := (ih h).2 _ _ _ _ _ _ _ _ h3.2.2 e
          have h5 := (rdM_ok T f h).2.2 x k (I ++ [tr3]) a3 h3.2.2
          rw [e] at h5
          have := h5.1
          rw [List.length_append, List.length_singleton] at h4
          omega

/-- Data one level up lie as they lay. -/
theorem RowD.map {α β : Type} {w : World} {P : α → List Value → Prop} {P' : β → List Value → Prop} {v : Value} {I : List α} (f : α → β) (h : RowD w P v I) (hP : ∀ a cs, P a cs → P' (f a) cs) : RowD w P' v (I.map f) := by
  obtain ⟨ao, cap, rfl, h1, h2, h3⟩ := h
  refine ⟨ao, cap, by rw [List.length_map], by rw [List.length_map]; exact h1, h2, ?_⟩
  rcases h3 with h3 | ⟨b, off, rfl, h3⟩
  · exact .inl (by rw [List.length_map]; exact h3)
  · refine .inr ⟨b, off, rfl, fun i hi => ?_⟩
    rw [List.length_map] at hi
    obtain ⟨cs, k1, k2, k3⟩ := h3 i hi
    exact ⟨cs, k1, k2, by rw [List.getElem_map]; exact hP _ _ k3⟩

theorem DatQ.lift {Q : Nat → Prop} {w : World} : {h : Nat} → {d : Tr h} → {cs : List Value} → DatQ Q w h d cs → DatQ Q w (h + 1) (upT h d) cs
  | 0, _, _, h => h.elim
  | h + 1, (k, n, b, L, t, I, R), cs, hd => by
    obtain ⟨um, ui, ur, e, h0, h1, h2, h3, h4, v1, v2, v3⟩ := hd
    exact ⟨um, ui, ur, e, h0, h1, h2, h3.map _ (fun _ _ h => DatQ.lift h), h4.map _ (fun _ _ h => DatQ.lift h), v1, by rw [List.length_map]; exact v2, by rw [List.length_map]; exact v3⟩

end Go.Proofs.Yteipogfolnlblaa
