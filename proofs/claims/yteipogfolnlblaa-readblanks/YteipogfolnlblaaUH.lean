/-
  What is proved here: blanks and comments between texts turn nothing of what is read; no walk.
-/
import Derived.Test.YteipogfolnlblaaUG
namespace Go.Proofs.Yteipogfolnlblaa
open Go Go.RowKit

/-- What may stand between two texts, behind a line's end. -/
def gapB : Nat → List UInt8
  | 0 => [32]
  | 1 => [59, 32, 119, 111, 114, 100, 115, 10]
  | 2 => [35, 124, 32, 97, 32, 35, 124, 32, 98, 32, 124, 35, 32, 124, 35]
  | 3 => [35, 59, 40, 120, 32, 34, 121, 34, 41, 32]
  | _ => [9, 13, 10]
theorem nx_blank {T : List UInt8} {g h ps a L : Nat} (hp : pieceP T.length a (T.drop a) = tkP a L 1) : (rdM T (g + 1) h).nx ps a = (rdM T g h).nx ps (a + L) := by
  show nxS T (rdM T g h) ps a = _
  unfold nxS
  rw [hp, if_pos (show (tkP a L 1).k = 1 from rfl)]
  rfl
theorem pieceW (n a : Nat) (c : UInt8) (hc : c = 32 ∨ c = 9 ∨ c = 10 ∨ c = 13) (l : List UInt8) : pieceP n a (c :: l) = tkP a 1 1 := by
  unfold pieceP
  simp only []
  rw [if_pos hc]
theorem skip1 {T : List UInt8} {g h ps a : Nat} {c : UInt8} {l : List UInt8} (hd : T.drop a = c :: l) (hc : c = 32 ∨ c = 9 ∨ c = 10 ∨ c = 13) : (rdM T (g + 1) h).nx ps a = (rdM T g h).nx ps (a + 1) :=
  nx_blank (by rw [hd]; exact pieceW _ _ c hc l)
theorem quo_y {T : List UInt8} {x a : Nat} {l : List UInt8} (hd : T.drop a = 121 :: 34 :: l) : quoP T x (T.length + 1) a [] = ⟨x, a + 1 + 1, 10, 4, 0, ⟨#[121]⟩, 0, a + 1 + 1⟩ := by
  have hd2 : T.drop (a + 1) = 34 :: l := drop_more [121] hd
  have hn : 1 ≤ T.length := by
    have := congrArg List.length hd
    rw [List.length_drop] at this
    simp at this
    omega
  obtain ⟨n, hn⟩ : ∃ n, T.length = n + 1 := ⟨T.length - 1, by omega⟩
  rw [hn]
  unfold quoP
  rw [hd]
  simp only []
  rw [if_neg (by decide), if_neg (by decide)]
  unfold quoP
  rw [hd2]
  simp
theorem rd_xy {T : List UInt8} {h a : Nat} {r : List UInt8} (hd : T.drop a = [40, 120, 32, 34, 121, 34, 41] ++ r) : ∃ tr, ∀ g, 8 ≤ g → (rdM T g (h + 1)).dt (tkP a 1 3) = .inr (a, a + 7, tr, a + 7) := by
  have e1 : T.drop (a + 1) = 120 :: (32 :: 34 :: 121 :: 34 :: 41 :: r) := drop_more [40] hd
  have e2 : T.drop (a + 2) = 32 :: (34 :: 121 :: 34 :: 41 :: r) := drop_more [40, 120] hd
  have e3 : T.drop (a + 3) = 34 :: 121 :: 34 :: 41 :: r := drop_more [40, 120, 32] hd
  have e4 : T.drop (a + 4) = 121 :: 34 :: (41 :: r) := drop_more [40, 120, 32, 34] hd
  have e6 : T.drop (a + 6) = 41 :: r := drop_more [40, 120, 32, 34, 121, 34] hd
  have hl : (32 :: 34 :: 121 :: 34 :: 41 :: r : List UInt8) = [] ∨ ∃ d l', (32 :: 34 :: 121 :: 34 :: 41 :: r : List UInt8) = d :: l' ∧ ¬ dlx d < 0 := .inr ⟨32, _, rfl, by decide⟩
  have hin : Inn (120 :: (32 :: 34 :: 121 :: 34 :: 41 :: r)) := fun n b => .inr (.inr (by rw [pieceX n b 120 (.inl rfl) _ hl]; rfl))
  have hp : pieceP T.length a (T.drop a) = tkP a 1 3 := by rw [hd]; exact pieceO _ _ _
  have hq : pieceP T.length (a + 3) (T.drop (a + 3)) = tkP (a + 3) 1 6 := by
    rw [e3]
    unfold pieceP
    simp
  have key : ∀ g, ∃ tr, (rdM T (g + 8) (h + 1)).dt (tkP a 1 3) = .inr (a, a + 7, tr, a + 7) := fun g => by
    have e0 := rd_list (T := T) (h := h) (a := a) (m := 1) (kk := 6) (g := g + 5) hp (.inl ⟨by rw [cut_drop, hd]; rfl, rfl⟩) e1 hin
    have en : (rdM T (g + 5 + 2 + 1) (h + 1)).nx 0 a = tkP a 1 3 := by
      rw [← hp]
      exact nx_first (by rw [hp]; show (3 : Nat) ≠ 1; decide) (by rw [hp]; show (3 : Nat) ≠ 2; decide)
    rw [en] at e0
    obtain ⟨s1, tr, s2⟩ := rd_sym (T := T) (h := h) (g := g + 5) (.inl rfl) e1 hl
    rw [s1, s2] at e0
    have n2 : (rdM T (g + 5) h).nx 0 (a + 2) = tkP (a + 3) 1 6 := by
      rw [skip1 e2 (.inl rfl), ← hq]
      exact nx_first (by rw [hq]; show (6 : Nat) ≠ 1; decide) (by rw [hq]; show (6 : Nat) ≠ 2; decide)
    have d2 : (rdM T (g + 5) h).dt (tkP (a + 3) 1 6) = .inr (a + 3, a + 6, lfT h ⟨4, 0, false, [], ⟨#[121]⟩⟩, a + 6) := by
      show dtS T (rdM T (g + 4)) h (tkP (a + 3) 1 6) = _
      unfold dtS
      have k6 : (tkP (a + 3) 1 6).k = 6 := rfl
      rw [if_neg (by omega), if_neg (by omega), if_neg (by omega), if_neg (by omega), if_pos k6]
      have hq2 : quoP T (tkP (a + 3) 1 6).x (T.length + 1) (tkP (a + 3) 1 6).a [] = ⟨a + 3, a + 4 + 1 + 1, 10, 4, 0, ⟨#[121]⟩, 0, a + 4 + 1 + 1⟩ := quo_y e4
      rw [hq2]
      rfl
    have e7 : (rdM T (g + 6) h).rw a 6 [tr] (a + 2) = (rdM T (g + 5) h).rw a 6 [tr, lfT h ⟨4, 0, false, [], ⟨#[121]⟩⟩] (a + 6) := by
      show rwS (rdM T (g + 5) h) a 6 [tr] (a + 2) = _
      unfold rwS
      have k6 : (tkP (a + 3) 1 6).k = 6 := rfl
      rw [n2, if_neg (by omega), if_neg (by omega), d2]
      rfl
    refine ⟨seqT 6 [tr, lfT h ⟨4, 0, false, [], ⟨#[121]⟩⟩] [], ?_⟩
    refine e0.trans ?_
    exact e7.trans (rw_close e6)
  obtain ⟨tr, htr⟩ := key 0
  refine ⟨tr, fun g hg => ?_⟩
  have ha : a + 1 ≤ T.length := by
    have := congrArg List.length hd
    rw [List.length_drop] at this
    simp at this
    omega
  have := (mono_sim T (h + 1) hg).dt (tkP a 1 3) a (a + 7) tr (a + 7) (.inr ⟨a, 1, 3, rfl, ha, by decide, fun e => by omega, fun _ => by decide, fun e => by omega⟩) (show (3 : Nat) ≠ 1 by decide) (show (3 : Nat) ≠ 2 by decide) htr
  simp only [List.length_nil, Nat.zero_add, shf_zero] at this
  exact this

theorem gap_skip (k : Nat) (T rest : List UInt8) (b h F : Nat) (hd : T.drop b = 10 :: (gapB k ++ rest)) (h11 : ((rdM T F (h + 1)).nx 0 (b + 1 + (gapB k).length)).k ≠ 11) (G : Nat) (hG : F + 12 ≤ G) :
    (rdM T G (h + 1)).nx 0 b = (rdM T F (h + 1)).nx 0 (b + 1 + (gapB k).length) := by
  have hlen : b + 1 + (gapB k).length ≤ T.length := by
    have := congrArg List.length hd
    rw [List.length_drop] at this
    simp at this
    omega
  have s1 := fun g => skip1 (T := T) (g := g) (h := h + 1) (ps := 0) hd (.inr (.inr (.inl rfl)))
  have hd1 : T.drop (b + 1) = gapB k ++ rest := drop_more [10] hd
  obtain ⟨G, rfl⟩ : ∃ G', G = G' + 12 := ⟨G - 12, by omega⟩
  have fin : ∀ g, F ≤ g → (rdM T g (h + 1)).nx 0 (b + 1 + (gapB k).length) = (rdM T F (h + 1)).nx 0 (b + 1 + (gapB k).length) := fun g hg => nx_mono hg hlen h11
  rw [s1]
  match k, hd1, fin with
  | 0, hd1, fin =>
    rw [skip1 (c := 32) (l := rest) hd1 (.inl rfl)]
    exact fin _ (by omega)
  | 1, hd1, fin =>
    have hd2 : T.drop (b + 1 + 7) = 10 :: rest := drop_more [59, 32, 119, 111, 114, 100, 115] hd1
    have hp : pieceP T.length (b + 1) (T.drop (b + 1)) = tkP (b + 1) 7 1 := by
      rw [hd1]
      show pieceP T.length (b + 1) (59 :: 32 :: 119 :: 111 :: 114 :: 100 :: 115 :: 10 :: rest) = _
      have hl : lineL (59 :: 32 :: 119 :: 111 :: 114 :: 100 :: 115 :: 10 :: rest) = 7 := by simp [lineL_cons]
      unfold pieceP
      simp [hl]
    rw [nx_blank hp, skip1 hd2 (.inr (.inr (.inl rfl)))]
    exact fin _ (by omega)
  | 2, hd1, fin =>
    have hp : pieceP T.length (b + 1) (T.drop (b + 1)) = tkP (b + 1) 15 1 := by
      rw [hd1]
      show pieceP T.length (b + 1) (35 :: 124 :: 32 :: 97 :: 32 :: 35 :: 124 :: 32 :: 98 :: 32 :: 124 :: 35 :: 32 :: 124 :: 35 :: rest) = _
      have hl : comM (35 :: 124 :: 32 :: 97 :: 32 :: 35 :: 124 :: 32 :: 98 :: 32 :: 124 :: 35 :: 32 :: 124 :: 35 :: rest) 0 = some 15 := by simp [comM]
      unfold pieceP
      simp [shP, Lib.hasPrefix, List.isPrefixOf, hl]
    rw [nx_blank hp]
    exact fin _ (by omega)
  | 3, hd1, fin =>
    have hd2 : T.drop (b + 1 + 2) = [40, 120, 32, 34, 121, 34, 41] ++ (32 :: rest) := drop_more [35, 59] hd1
    have hd3 : T.drop (b + 1 + 2 + 7) = 32 :: rest := drop_more [40, 120, 32, 34, 121, 34, 41] hd2
    have hp : pieceP T.length (b + 1) (T.drop (b + 1)) = tkP (b + 1) 2 2 := by
      rw [hd1]
      show pieceP T.length (b + 1) (35 :: 59 :: _) = _
      unfold pieceP
      simp [shP, Lib.hasPrefix, List.isPrefixOf]
    have hp2 : pieceP T.length (b + 1 + 2) (T.drop (b + 1 + 2)) = tkP (b + 1 + 2) 1 3 := by rw [hd2]; exact pieceO _ _ _
    obtain ⟨tr, htr⟩ := rd_xy (h := h) hd2
    have n1 : (rdM T (G + 11) (h + 1)).nx 0 (b + 1) = (rdM T (G + 10) (h + 1)).nx 1 (b + 1 + 2) := by
      show nxS T (rdM T (G + 10) (h + 1)) 0 (b + 1) = _
      unfold nxS
      have k2 : (tkP (b + 1) 2 2).k = 2 := rfl
      rw [hp, if_neg (by omega), if_pos k2]
      rfl
    have n2 : (rdM T (G + 10) (h + 1)).nx 1 (b + 1 + 2) = (rdM T (G + 9) (h + 1)).nx 0 (b + 1 + 2 + 7) := by
      show nxS T (rdM T (G + 9) (h + 1)) 1 (b + 1 + 2) = _
      unfold nxS
      have k3 : (tkP (b + 1 + 2) 1 3).k = 3 := rfl
      rw [hp2, if_neg (by omega), if_neg (by omega), if_pos (by decide), htr (G + 9) (by omega)]
    rw [n1, n2, skip1 hd3 (.inl rfl)]
    exact fin _ (by omega)
  | k + 4, hd1, fin =>
    have hd1 : T.drop (b + 1) = 9 :: 13 :: 10 :: rest := hd1
    have hd2 : T.drop (b + 1 + 1) = 13 :: 10 :: rest := drop_more [9] hd1
    have hd3 : T.drop (b + 1 + 1 + 1) = 10 :: rest := drop_more [13] hd2
    rw [skip1 hd1 (.inr (.inl rfl)), skip1 hd2 (.inr (.inr (.inr rfl))), skip1 hd3 (.inr (.inr (.inl rfl)))]
    exact fin _ (by omega)

/-- Texts with what stands between them. -/
def cats {h : Nat} : List (List UInt8 × Nat × List (Tr (h + 1))) → List UInt8
  | [] => []
  | x :: L => x.1 ++ (10 :: (gapB x.2.1 ++ cats L))
theorem cats_snoc {h : Nat} (x : List UInt8 × Nat × List (Tr (h + 1))) : ∀ L, cats (L ++ [x]) = cats L ++ (x.1 ++ (10 :: gapB x.2.1))
  | [] => by simp [cats]
  | y :: L => by
    rw [List.cons_append]
    unfold cats
    rw [cats_snoc x L]
    simp
theorem cats_all {h : Nat} : ∀ (L : List (List UInt8 × Nat × List (Tr (h + 1 + 1)))), (∀ x ∈ L, ∃ f g, allR (rdM x.1 f (h + 1)) g 0 [] = .inr x.2.2) → ∃ f g, allR (rdM (cats L) f (h + 1)) g 0 [] = .inr (L.flatMap fun x => x.2.2)
  | [], _ => ⟨1, 1, allR_nil 0 (by
      show (nxS [] (rdM [] 0 (h + 1)) 0 0).k = 0
      rfl)⟩
  | (T1, k, J1) :: L, hL => by
    obtain ⟨f2, g2, e⟩ := cats_all L fun x hx => hL x (by simp [hx])
    obtain ⟨f1, g1, e1⟩ := hL (T1, k, J1) (by simp)
    have e1 : allR (rdM T1 f1 (h + 1)) g1 0 [] = .inr J1 := e1
    generalize hS : cats L = S at *
    have eq : T1 ++ (10 :: (gapB k ++ S)) = (T1 ++ 10 :: gapB k) ++ S := by simp
    have e2 := all_shift (P := T1 ++ 10 :: gapB k) (T := S) (Nat.le_refl f2) (Nat.zero_le _) e
    have hl : (T1 ++ 10 :: gapB k).length = T1.length + 1 + (gapB k).length := by simp; omega
    have e2 : allR (rdM (T1 ++ (10 :: (gapB k ++ S))) f2 (h + 1)) g2 (T1.length + 1 + (gapB k).length) [] = .inr (L.flatMap fun x => x.2.2) := by
      rw [← hl, eq]
      exact e2
    have hle : T1.length + 1 + (gapB k).length ≤ (T1 ++ (10 :: (gapB k ++ S))).length := by simp; omega
    have hd : (T1 ++ (10 :: (gapB k ++ S))).drop T1.length = 10 :: (gapB k ++ S) := List.drop_left
    have e3 : allR (rdM (T1 ++ (10 :: (gapB k ++ S))) (f2 + 12) (h + 1)) g2 T1.length [] = .inr (L.flatMap fun x => x.2.2) := by
      refine allR_same ?_ (allR_mono (by omega) g2 g2 _ _ hle (Nat.le_refl _) e2)
      rw [gap_skip k _ S T1.length h f2 hd (allR_k e2) (f2 + 12) (Nat.le_refl _)]
      exact (nx_mono (by omega) hle (allR_k e2)).symm
    have e4 := all_comp (P := []) (T := T1) (X := 10 :: (gapB k ++ S)) (.inr ⟨_, rfl⟩) (f := f1) (F := f2 + 12) (g2 := g2) (h := h + 1) (K := L.flatMap fun x => x.2.2) (by simpa using e3) g1 0 (f2 + 12 + f1) J1 (Nat.zero_le _) (Nat.le_refl _) e1
    refine ⟨f2 + 12 + f1, g1 + g2, ?_⟩
    have e5 : cats ((T1, k, J1) :: L) = T1 ++ (10 :: (gapB k ++ S)) := by
      unfold cats
      rw [hS]
    rw [e5]
    simpa using e4

end Go.Proofs.Yteipogfolnlblaa
