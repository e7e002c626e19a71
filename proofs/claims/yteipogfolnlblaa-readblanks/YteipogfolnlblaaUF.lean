/-
  What is proved here: the data of one text behind another; no walk.
-/
import Derived.Test.YteipogfolnlblaaUE
import Derived.Test.YteipogfolnlblaaUC
namespace Go.Proofs.Yteipogfolnlblaa
open Go Go.RowKit

theorem shf_zero (q : LP) : shf 0 q = q := by
  unfold shf
  simp
theorem mono_sim (T : List UInt8) {f f' : Nat} (h : Nat) (hf : f ≤ f') : Sim [] T [] (rdM T f h) (rdM T f' h) := by
  have := sim_all [] T [] (.inl rfl) f f' h hf
  rw [List.append_nil, List.nil_append] at this
  exact this
theorem nx_mono {T : List UInt8} {f f' h ps a : Nat} (hf : f ≤ f') (ha : a ≤ T.length) (hk : ((rdM T f h).nx ps a).k ≠ 11) : (rdM T f' h).nx ps a = (rdM T f h).nx ps a := by
  have := (mono_sim T h hf).nx ps a ha ⟨hk, .inl rfl⟩
  rw [List.length_nil, Nat.zero_add, shf_zero] at this
  exact this
theorem nd_mono {T : List UInt8} {f f' h a x y : Nat} {tr : Tr (h + 1)} {a' : Nat} (hf : f ≤ f') (ha : a ≤ T.length) (e : (rdM T f h).dt ((rdM T f h).nx 0 a) = .inr (x, y, tr, a')) : (rdM T f' h).nx 0 a = (rdM T f h).nx 0 a ∧ (rdM T f' h).dt ((rdM T f' h).nx 0 a) = .inr (x, y, tr, a') := by
  have := nd_sim (mono_sim T h hf) ha e
  simp only [List.length_nil, Nat.zero_add, shf_zero] at this
  exact this
theorem piece_k0 {n a : Nat} {l : List UInt8} (h : (pieceP n a l).k = 0) : l = [] := by
  match l, h with
  | [], _ => rfl
  | c :: l, h =>
    exfalso
    have tk : ∀ (a l : List UInt8) (x : Nat), (tokP x l).k ≠ 0 := fun _ l x => by
      unfold tokP tkP
      simp only []
      split <;> decide
    unfold pieceP at h
    simp only [] at h
    split at h
    · exact absurd h (by unfold tkP; simp)
    split at h
    · exact absurd h (by unfold tkP; simp)
    split at h
    · exact absurd h (by unfold tkP; simp)
    split at h
    · exact absurd h (by unfold tkP; simp)
    split at h
    · exact absurd h (by unfold tkP; simp)
    split at h
    · exact absurd h (by unfold tkP; simp)
    split at h
    · split at h <;> exact absurd h (by unfold tkP; simp)
    split at h
    · unfold shP at h
      split at h
      · split at h
        · exact absurd h (by unfold ftP; simp)
        · exact absurd h (by unfold tkP; simp)
      split at h
      · exact absurd h (by unfold tkP; simp)
      split at h
      · exact absurd h (by unfold tkP; simp)
      split at h
      · exact absurd h (by unfold tkP; simp)
      · exact tk [] _ _ h
    · exact tk [] _ _ h
/-- Where a text ends, reading goes on with what stands behind it. -/
theorem sim_end (P T X : List UInt8) (hX : Brk X) (h g : Nat) (hk : ((rdM (P ++ (T ++ X)) g h).nx 0 (P.length + T.length)).k ≠ 11) : ∀ (f ps a G : Nat), a ≤ T.length → ((rdM T f h).nx ps a).k = 0 → g + f ≤ G → (rdM (P ++ (T ++ X)) G h).nx ps (P.length + a) = (rdM (P ++ (T ++ X)) g h).nx 0 (P.length + T.length)
  | 0, ps, a, G, _, e, _ => by
    have e : (11 : Nat) = 0 := e
    omega
  | f + 1, ps, a, 0, _, _, hG => by omega
  | f + 1, ps, a, G + 1, ha, e, hG => by
    have hP := piece_ok T.length a (T.drop a) List.length_drop ha
    have ok := rdM_ok T f h
    have e : (nxS T (rdM T f h) ps a).k = 0 := e
    have S := sim_all P T X hX f G h (by omega)
    by_cases c0 : (pieceP T.length a (T.drop a)).k = 0
    · have h1 := piece_k0 c0
      have h2 : a = T.length := by
        have := List.drop_eq_nil_iff.1 h1
        omega
      subst h2
      have h3 : ps = 0 := by
        rcases Nat.eq_zero_or_pos ps with hp | hp
        · exact hp
        · exfalso
          unfold nxS at e
          rw [if_neg (by omega), if_neg (by omega), if_pos hp] at e
          have hd := ok.2.1 _ hP.1 (by omega) (by omega)
          match hr : (rdM T f h).dt (pieceP T.length T.length (T.drop T.length)) with
          | .inl q =>
            rw [hr] at e hd
            have hd : q.k = 11 := hd
            have e : q.k = 0 := e
            omega
          | .inr v => exact (dt_good hr).1 c0
      subst h3
      exact nx_mono (by omega) (by simp) hk
    · show nxS (P ++ (T ++ X)) (rdM (P ++ (T ++ X)) G h) ps (P.length + a) = _
      unfold nxS at e ⊢
      rw [drop_at P T X ha]
      have hpa := piece_app hX P.length T.length (P ++ (T ++ X)).length a (T.drop a)
      generalize pieceP T.length a (T.drop a) = q0 at *
      by_cases c1 : q0.k = 1
      · rw [if_pos c1] at e
        rw [hpa (FineP.good ⟨by omega, by omega, by omega⟩ X), if_pos (show (shf P.length q0).k = 1 from c1)]
        exact sim_end P T X hX h g hk f ps _ G hP.2.2.1 e (by omega)
      rw [if_neg c1] at e
      by_cases c2 : q0.k = 2
      · rw [if_pos c2] at e
        rw [hpa (FineP.good ⟨by omega, by omega, by omega⟩ X), if_neg (show ¬ (shf P.length q0).k = 1 from c1), if_pos (show (shf P.length q0).k = 2 from c2)]
        exact sim_end P T X hX h g hk f (ps + 1) _ G hP.2.2.1 e (by omega)
      rw [if_neg c2] at e
      by_cases c3 : 0 < ps
      · rw [if_pos c3] at e
        have hd := ok.2.1 q0 hP.1 c1 c2
        match hr : (rdM T f h).dt q0 with
        | .inl q =>
          rw [hr] at e hd
          have hd : q.k = 11 := hd
          have e : q.k = 0 := e
          omega
        | .inr (x2, y2, tr2, a2) =>
          rw [hr] at e hd
          rw [hpa ((dt_good hr).good X), if_neg (show ¬ (shf P.length q0).k = 1 from c1), if_neg (show ¬ (shf P.length q0).k = 2 from c2), if_pos c3, S.dt q0 x2 y2 tr2 a2 hP.1 c1 c2 hr]
          exact sim_end P T X hX h g hk f (ps - 1) a2 G hd.2.1 e (by omega)
      · rw [if_neg c3] at e
        exact absurd e c0

theorem allR_app {h : Nat} (r : RM h) (I0 : List (Tr (h + 1))) : ∀ (g a : Nat) (I1 : List (Tr (h + 1))), allR r g a (I0 ++ I1) = (match allR r g a I1 with | .inl q => .inl q | .inr J => .inr (I0 ++ J))
  | 0, a, I1 => rfl
  | g + 1, a, I1 => by
    unfold allR
    split
    · rfl
    · match hr : r.dt (r.nx 0 a) with
      | .inl q => rfl
      | .inr (x, y, tr, a') =>
        simp only []
        rw [List.append_assoc]
        exact allR_app r I0 g a' (I1 ++ [tr])
theorem allR_one {h : Nat} {r : RM h} {g a : Nat} {tr : Tr (h + 1)} {J : List (Tr (h + 1))} (e : allR r g a ([] ++ [tr]) = .inr J) : ∃ J', J = tr :: J' ∧ allR r g a [] = .inr J' := by
  have h1 := allR_app r [tr] g a []
  rw [List.append_nil] at h1
  rw [List.nil_append, h1] at e
  match hr : allR r g a [] with
  | .inl q => rw [hr] at e; cases e
  | .inr J' =>
    rw [hr] at e
    simp only [Sum.inr.injEq] at e
    exact ⟨J', e.symm, rfl⟩
theorem allR_two {h : Nat} {r : RM h} {g a : Nat} {tr : Tr (h + 1)} {J : List (Tr (h + 1))} (e : allR r g a [] = .inr J) : allR r g a ([] ++ [tr]) = .inr (tr :: J) := by
  have h1 := allR_app r [tr] g a []
  rw [List.append_nil, e] at h1
  exact h1
theorem allR_inv {h : Nat} {r : RM h} {g a : Nat} {J : List (Tr (h + 1))} (e : allR r g a [] = .inr J) : ∃ g', g = g' + 1 ∧ (((r.nx 0 a).k = 0 ∧ J = []) ∨ ((r.nx 0 a).k ≠ 0 ∧ ∃ x y tr a' J', r.dt (r.nx 0 a) = .inr (x, y, tr, a') ∧ J = tr :: J' ∧ allR r g' a' [] = .inr J')) := by
  match g, e with
  | g + 1, e =>
    refine ⟨g, rfl, ?_⟩
    unfold allR at e
    split at e
    · rename_i h0
      simp only [Sum.inr.injEq] at e
      exact .inl ⟨h0, e.symm⟩
    · rename_i h0
      match hr : r.dt (r.nx 0 a) with
      | .inl q => rw [hr] at e; cases e
      | .inr (x, y, tr, a') =>
        rw [hr] at e
        obtain ⟨J', h1, h2⟩ := allR_one e
        exact .inr ⟨h0, x, y, tr, a', J', rfl, h1, h2⟩
theorem allR_nil {h : Nat} {r : RM h} (g : Nat) {a : Nat} (e : (r.nx 0 a).k = 0) : allR r (g + 1) a [] = .inr [] := by
  unfold allR
  rw [if_pos e]
theorem allR_cons {h : Nat} {r : RM h} {g a x y : Nat} {tr : Tr (h + 1)} {a' : Nat} {J : List (Tr (h + 1))} (k : (r.nx 0 a).k ≠ 0) (e : r.dt (r.nx 0 a) = .inr (x, y, tr, a')) (e2 : allR r g a' [] = .inr J) : allR r (g + 1) a [] = .inr (tr :: J) := by
  unfold allR
  rw [if_neg k, e]
  exact allR_two e2
/-- With more fuel the same. -/
theorem allR_mono {T : List UInt8} {f f' h : Nat} (hf : f ≤ f') : ∀ (g g' a : Nat) (J : List (Tr (h + 1))), a ≤ T.length → g ≤ g' → allR (rdM T f h) g a [] = .inr J → allR (rdM T f' h) g' a [] = .inr J
  | g, g', a, J, ha, hg, e => by
    obtain ⟨g1, rfl, h1⟩ := allR_inv e
    obtain ⟨g2, rfl⟩ : ∃ g2, g' = g2 + 1 := ⟨g' - 1, by omega⟩
    rcases h1 with ⟨h0, rfl⟩ | ⟨h0, x, y, tr, a', J', h2, rfl, h3⟩
    · exact allR_nil g2 (by rw [nx_mono hf ha (by omega)]; exact h0)
    · obtain ⟨k1, k2⟩ := nd_mono hf ha h2
      have ha' := ((nd_ok (rdM_ok T f h) ha).2 _ _ _ _ h2).2.1
      exact allR_cons (by rw [k1]; exact h0) k2 (allR_mono hf g1 g2 a' J' ha' (by omega) h3)
theorem allR_same {h : Nat} {r : RM h} {g a b : Nat} {J : List (Tr (h + 1))} (e : r.nx 0 a = r.nx 0 b) (e2 : allR r g b [] = .inr J) : allR r g a [] = .inr J := by
  obtain ⟨g1, rfl, h1⟩ := allR_inv e2
  rcases h1 with ⟨h0, rfl⟩ | ⟨h0, x, y, tr, a', J', h2, rfl, h3⟩
  · exact allR_nil g1 (by rw [e]; exact h0)
  · exact allR_cons (by rw [e]; exact h0) (by rw [e]; exact h2) h3
theorem allR_k {h g a : Nat} {T : List UInt8} {f : Nat} {J : List (Tr (h + 1))} (e : allR (rdM T f h) g a [] = .inr J) : ((rdM T f h).nx 0 a).k ≠ 11 := by
  obtain ⟨g1, -, h1⟩ := allR_inv e
  rcases h1 with ⟨h0, -⟩ | ⟨h0, x, y, tr, a', J', h2, -⟩
  · omega
  · exact (dt_good h2).2.1
/-- The data of a text, and those behind it. -/
theorem all_comp {P T X : List UInt8} (hX : Brk X) {f F h g2 : Nat} {K : List (Tr (h + 1))} (e2 : allR (rdM (P ++ (T ++ X)) F h) g2 (P.length + T.length) [] = .inr K) : ∀ (g a G : Nat) (J : List (Tr (h + 1))), a ≤ T.length → F + f ≤ G → allR (rdM T f h) g a [] = .inr J → allR (rdM (P ++ (T ++ X)) G h) (g + g2) (P.length + a) [] = .inr (J ++ K)
  | g, a, G, J, ha, hG, e => by
    obtain ⟨g1, rfl, h1⟩ := allR_inv e
    rcases h1 with ⟨h0, rfl⟩ | ⟨h0, x, y, tr, a', J', h2, rfl, h3⟩
    · have e3 := allR_mono (f' := G) (by omega) g2 (g1 + 1 + g2) _ K (by simp) (by omega) e2
      refine allR_same ?_ e3
      rw [sim_end P T X hX h F (allR_k e2) f 0 a G ha h0 hG]
      exact (nx_mono (by omega) (by simp) (allR_k e2)).symm
    · have S := sim_all P T X hX f G h (by omega)
      obtain ⟨k1, k2⟩ := nd_sim S ha h2
      have ha' := ((nd_ok (rdM_ok T f h) ha).2 _ _ _ _ h2).2.1
      rw [show g1 + 1 + g2 = (g1 + g2) + 1 by omega, List.cons_append]
      exact allR_cons (by rw [k1]; exact h0) k2 (all_comp hX e2 g1 a' G J' ha' hG h3)
/-- The data of what stands behind something. -/
theorem all_shift {P T : List UInt8} {f F h : Nat} (hF : f ≤ F) {g a : Nat} {J : List (Tr (h + 1))} (ha : a ≤ T.length) (e : allR (rdM T f h) g a [] = .inr J) : allR (rdM (P ++ T) F h) g (P.length + a) [] = .inr J := by
  have S := sim_all P T [] (.inl rfl) f F h hF
  rw [List.append_nil] at S
  have go : ∀ (g a : Nat) (J : List (Tr (h + 1))), a ≤ T.length → allR (rdM T f h) g a [] = .inr J → allR (rdM (P ++ T) F h) g (P.length + a) [] = .inr J := fun g => by
    induction g with
    | zero => intro a J _ e; cases e
    | succ g ih =>
      intro a J ha e
      obtain ⟨g1, hg1, h1⟩ := allR_inv e
      obtain rfl : g = g1 := by omega
      rcases h1 with ⟨h0, rfl⟩ | ⟨h0, x, y, tr, a', J', h2, rfl, h3⟩
      · exact allR_nil g (by rw [S.nx 0 a ha ⟨by omega, .inl rfl⟩]; exact h0)
      · obtain ⟨k1, k2⟩ := nd_sim S ha h2
        have ha' := ((nd_ok (rdM_ok T f h) ha).2 _ _ _ _ h2).2.1
        exact allR_cons (by rw [k1]; exact h0) k2 (ih a' J' ha' h3)
  exact go g a J ha e

end Go.Proofs.Yteipogfolnlblaa
