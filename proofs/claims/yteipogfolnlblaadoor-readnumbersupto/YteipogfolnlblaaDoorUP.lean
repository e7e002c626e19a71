/-
  What is proved here: plain facts on reading all data of a text, one behind the other; no walk. what is read hangs neither on what stands ahead of it nor, from a line's end on, on what stands behind it; no walk. the data of one text behind another; no walk.
-/
import Derived.Test.YteipogfolnlblaaDoorWXG
namespace Go.Proofs.YteipogfolnlblaaDoor
open Go Go.RowKit

/-- What All comes to from a place on, behind some data. -/
def allR {h : Nat} (r : RM h) : Nat → Nat → List (Tr (h + 1)) → LP ⊕ List (Tr (h + 1))
  | 0, a, _ => .inl (ftP 0 0 a)
  | g + 1, a, I =>
    if (r.nx 0 a).k = 0 then .inr I
    else match r.dt (r.nx 0 a) with
      | .inl q => .inl q
      | .inr (_, _, tr, a') => allR r g a' (I ++ [tr])

theorem allR_pre {h : Nat} (r : RM h) : ∀ (g a : Nat) (I J : List (Tr (h + 1))), allR r g a I = .inr J → ∃ K, J = I ++ K
  | 0, _, _, _, e => by cases e
  | g + 1, a, I, J, e => by
    unfold allR at e
    split at e
    · cases e
      exact ⟨[], by simp⟩
    · match hr : r.dt (r.nx 0 a) with
      | .inl q => rw [hr] at e; cases e
      | .inr (x, y, tr, a') =>
        rw [hr] at e
        obtain ⟨K, hK⟩ := allR_pre r g a' (I ++ [tr]) J e
        exact ⟨tr :: K, by rw [hK]; simp⟩
/-- There is one more. -/
theorem allR_more {h : Nat} {r : RM h} {g a k : Nat} {J : List (Tr (h + 1))} (e : allR r g a (J.take k) = .inr J) (hk : k < J.length) : ∃ x y a' g', r.dt (r.nx 0 a) = .inr (x, y, J[k], a') ∧ allR r g' a' (J.take (k + 1)) = .inr J := by
  match g, e with
  | g + 1, e =>
    unfold allR at e
    split at e
    · injection e with e
      have := congrArg List.length e
      rw [List.length_take] at this
      omega
    · match hr : r.dt (r.nx 0 a) with
      | .inl q => rw [hr] at e; cases e
      | .inr (x, y, tr, a') =>
        rw [hr] at e
        obtain ⟨K, hK⟩ := allR_pre r g a' (J.take k ++ [tr]) J e
        have h1 : J[k]? = some tr := by
          rw [hK, List.append_assoc, List.getElem?_append_right (by rw [List.length_take]; omega)]
          simp [List.length_take, Nat.min_eq_left (Nat.le_of_lt hk)]
        have h2 : J[k] = tr := by rw [List.getElem?_eq_getElem hk] at h1; exact Option.some.inj h1
        subst h2
        refine ⟨x, y, a', g, rfl, ?_⟩
        rw [List.take_succ_eq_append_getElem hk]
        exact e
/-- There is none more. -/
theorem allR_end {h : Nat} {r : RM h} {g a : Nat} {J : List (Tr (h + 1))} (e : allR r g a J = .inr J) : (r.nx 0 a).k = 0 := by
  match g, e with
  | g + 1, e =>
    unfold allR at e
    split at e
    · assumption
    · match hr : r.dt (r.nx 0 a) with
      | .inl q => rw [hr] at e; cases e
      | .inr (x, y, tr, a') =>
        rw [hr] at e
        obtain ⟨K, hK⟩ := allR_pre r g a' (J ++ [tr]) J e
        have := congrArg List.length hK
        simp at this

/-- The same piece, p places on. -/
def shf (p : Nat) (q : LP) : LP := ⟨p + q.x, p + q.y, q.k, q.dk, q.n, q.s, q.er, p + q.a⟩
/-- Nothing, or a line's end and more. -/
def Brk (X : List UInt8) : Prop := X = [] ∨ ∃ X', X = 10 :: X'
def GoodP (X : List UInt8) (q : LP) : Prop := q.k ≠ 11 ∧ (X = [] ∨ (q.k ≠ 0 ∧ (q.k = 7 → q.x + 3 ≤ q.y)))
def FineP (q : LP) : Prop := q.k ≠ 0 ∧ q.k ≠ 11 ∧ (q.k = 7 → q.x + 3 ≤ q.y)
theorem FineP.good {q : LP} (h : FineP q) (X : List UInt8) : GoodP X q := ⟨h.2.1, .inr ⟨h.1, h.2.2⟩⟩

theorem shf_tk (p a L k : Nat) : shf p (tkP a L k) = tkP (p + a) L k := by
  unfold shf tkP
  simp [Nat.add_assoc]
theorem shf_st (p a L n : Nat) : shf p (stP a L n) = stP (p + a) L n := by
  unfold shf stP
  simp [Nat.add_assoc]
theorem tokL_app {X : List UInt8} (hX : Brk X) (l : List UInt8) : tokL (l ++ X) = tokL l := by
  unfold tokL
  induction l with
  | nil =>
    rcases hX with rfl | ⟨X', rfl⟩
    · rfl
    · have : ¬ dlx 10 < 0 := by decide
      simp [this]
  | cons c l ih =>
    simp only [List.cons_append, List.takeWhile_cons]
    split
    · simp only [List.length_cons, ih]
    · rfl
theorem lineL_cons (c : UInt8) (l : List UInt8) : lineL (c :: l) = if c = 10 then 0 else lineL l + 1 := by
  have h2 := Lib.indexByte_ge l 10
  by_cases h : c = 10
  · have e : Lib.indexByte (c :: l) 10 = 0 := by simp [Lib.indexByte, h]
    unfold lineL
    rw [e, if_pos h]
    rfl
  · by_cases h3 : Lib.indexByte l 10 = -1
    · have e : Lib.indexByte (c :: l) 10 = -1 := by simp [Lib.indexByte, h, h3]
      unfold lineL
      rw [e, h3, if_neg h]
      simp
    · have e : Lib.indexByte (c :: l) 10 = Lib.indexByte l 10 + 1 := by simp [Lib.indexByte, h, h3]
      unfold lineL
      rw [e, if_neg h, if_pos (by omega), if_pos (by omega)]
      omega
theorem lineL_app {X : List UInt8} (hX : Brk X) (l : List UInt8) : lineL (l ++ X) = lineL l := by
  rcases hX with rfl | ⟨X', rfl⟩
  · rw [List.append_nil]
  · induction l with
    | nil => rw [List.nil_append, lineL_cons]; rfl
    | cons c l ih => rw [List.cons_append, lineL_cons, lineL_cons, ih]
theorem comM_app (X : List UInt8) : ∀ (m : Nat) (l : List UInt8) (o L : Nat), l.length ≤ m → comM l o = some L → comM (l ++ X) o = some L
  | _, [], o, L, _, e => by simp [comM] at e
  | _, [x], o, L, _, e => by simp [comM] at e
  | 0, x :: y :: l, o, L, hm, _ => by simp at hm
  | m + 1, x :: y :: l, o, L, hm, e => by
    have hm' : l.length + 1 ≤ m := by simpa using hm
    rw [List.cons_append, List.cons_append]
    unfold comM at e ⊢
    split
    · rename_i h
      rw [if_pos h] at e
      match hc : comM l (o + 1) with
      | none => rw [hc] at e; simp at e
      | some v => rw [comM_app X m l (o + 1) v (by omega) hc]; rw [hc] at e; exact e
    · rename_i h
      rw [if_neg h] at e
      split
      · rename_i h2
        rw [if_pos h2] at e
        split
        · rename_i h3
          rw [if_pos h3] at e
          exact e
        · rename_i h3
          rw [if_neg h3] at e
          match hc : comM l (o - 1) with
          | none => rw [hc] at e; simp at e
          | some v => rw [comM_app X m l (o - 1) v (by omega) hc]; rw [hc] at e; exact e
      · rename_i h2
        rw [if_neg h2] at e
        match hc : comM (y :: l) o with
        | none => rw [hc] at e; simp at e
        | some v =>
          have := comM_app X m (y :: l) o v (by simpa using hm') hc
          rw [List.cons_append] at this
          rw [this]
          rw [hc] at e
          exact e
theorem pref_app {X : List UInt8} (hX : Brk X) (c : UInt8) (l : List UInt8) (a b : UInt8) (hb : b ≠ 10) : Lib.hasPrefix (c :: (l ++ X)) [a, b] = Lib.hasPrefix (c :: l) [a, b] := by
  cases l with
  | nil =>
    rcases hX with rfl | ⟨X', rfl⟩
    · rfl
    · have hb' : (b == 10) = false := by simpa using hb
      show (a == c && (b == 10 && true)) = (a == c && false)
      rw [hb']
      rfl
  | cons d l => rfl
theorem hexP_app {X : List UInt8} (l : List UInt8) (h : (hexP l).2.toNat ≠ l.length) : hexP (l ++ X) = hexP l := by
  match l, h with
  | [], h => simp [hexP] at h
  | [c], h =>
    by_cases hc : hx c < 0
    · simp [hexP, hc]
    · simp [hexP, hc] at h
  | c :: e :: l, _ => simp [hexP]
theorem tok_app {X : List UInt8} (hX : Brk X) (p a : Nat) (l : List UInt8) : tokP (p + a) (l ++ X) = shf p (tokP a l) := by
  unfold tokP
  rw [shf_tk, tokL_app hX, List.take_append_of_le_length (tokL_le l)]
theorem piece_app {X : List UInt8} (hX : Brk X) (p n n' a : Nat) (l : List UInt8) (hg : GoodP X (pieceP n a l)) : pieceP n' (p + a) (l ++ X) = shf p (pieceP n a l) := by
  match l, hg with
  | [], hg =>
    rcases hg.2 with rfl | h
    · exact (shf_tk p a 0 0).symm
    · exact absurd rfl h.1
  | c :: l, hg =>
    rw [List.cons_append]
    have hl : c :: (l ++ X) = (c :: l) ++ X := rfl
    unfold pieceP at hg ⊢
    simp only [] at hg ⊢
    by_cases h1 : c = 32 ∨ c = 9 ∨ c = 10 ∨ c = 13
    · rw [if_pos h1, if_pos h1, shf_tk]
    rw [if_neg h1] at hg
    rw [if_neg h1, if_neg h1]
    by_cases h2 : c = 59
    · rw [if_pos h2, if_pos h2, shf_tk, hl, lineL_app hX]
    rw [if_neg h2] at hg
    rw [if_neg h2, if_neg h2]
    by_cases h3 : c = 40
    · rw [if_pos h3, if_pos h3, shf_tk]
    rw [if_neg h3] at hg
    rw [if_neg h3, if_neg h3]
    by_cases h4 : c = 41
    · rw [if_pos h4, if_pos h4, shf_tk]
    rw [if_neg h4] at hg
    rw [if_neg h4, if_neg h4]
    by_cases h5 : c = 34
    · rw [if_pos h5, if_pos h5, shf_tk]
    rw [if_neg h5] at hg
    rw [if_neg h5, if_neg h5]
    by_cases h6 : c = 39 ∨ c = 96
    · rw [if_pos h6, if_pos h6, shf_tk]
    rw [if_neg h6] at hg
    rw [if_neg h6, if_neg h6]
    by_cases h7 : c = 44
    · rw [if_pos h7, if_pos h7, pref_app hX c l 44 64 (by decide)]
      split
      · rw [shf_tk]
      · rw [shf_tk]
    rw [if_neg h7] at hg
    rw [if_neg h7, if_neg h7]
    by_cases h8 : c = 35
    · rw [if_pos h8] at hg
      rw [if_pos h8, if_pos h8]
      unfold shP at hg ⊢
      rw [pref_app hX c l 35 124 (by decide), pref_app hX c l 35 59 (by decide), pref_app hX c l 35 40 (by decide), pref_app hX c l 35 92 (by decide)]
      by_cases g1 : Lib.hasPrefix (c :: l) [35, 124] = true
      · rw [if_pos g1] at hg
        rw [if_pos g1, if_pos g1]
        match hc : comM (c :: l) 0 with
        | none => rw [hc] at hg; exact absurd rfl hg.1
        | some L => rw [hl, comM_app X _ (c :: l) 0 L (Nat.le_refl _) hc]; exact (shf_tk _ _ _ _).symm
      rw [if_neg g1] at hg
      rw [if_neg g1, if_neg g1]
      by_cases g2 : Lib.hasPrefix (c :: l) [35, 59] = true
      · rw [if_pos g2, if_pos g2, shf_tk]
      rw [if_neg g2] at hg
      rw [if_neg g2, if_neg g2]
      by_cases g3 : Lib.hasPrefix (c :: l) [35, 40] = true
      · rw [if_pos g3, if_pos g3, shf_tk]
      rw [if_neg g3] at hg
      rw [if_neg g3, if_neg g3]
      by_cases g4 : Lib.hasPrefix (c :: l) [35, 92] = true
      · rw [if_pos g4] at hg
        rw [if_pos g4, if_pos g4, shf_tk]
        rcases hg.2 with rfl | hgg
        · rw [List.append_nil]
        have h3' : 3 ≤ (c :: l).length := by
          have h9 : a + 3 ≤ a + (min 3 (c :: l).length + tokL ((c :: l).drop (min 3 (c :: l).length))) := hgg.2 rfl
          have h10 := tokL_le ((c :: l).drop (min 3 (c :: l).length))
          rw [List.length_drop] at h10
          omega
        have e1 : min 3 (c :: (l ++ X)).length = 3 := by simp at h3' ⊢; omega
        have e2 : min 3 (c :: l).length = 3 := by omega
        rw [e1, e2, hl, List.drop_append_of_le_length h3', tokL_app hX]
      · rw [if_neg g4, if_neg g4, hl, tok_app hX]
    · rw [if_neg h8, if_neg h8, hl, tok_app hX]
theorem esc_app (X : List UInt8) (p n n' a : Nat) (l : List UInt8) (hk : (escP n a l).k ≠ 11) : escP n' (p + a) (l ++ X) = shf p (escP n a l) := by
  match l, hk with
  | [], hk => exact absurd rfl hk
  | [_], hk => exact absurd rfl hk
  | c :: x :: l, hk =>
    have hl : c :: x :: (l ++ X) = (c :: x :: l) ++ X := rfl
    rw [List.cons_append, List.cons_append]
    unfold escP at hk ⊢
    simp only [] at hk ⊢
    by_cases h1 : x = 34
    · rw [if_pos h1, if_pos h1, shf_st]
    rw [if_neg h1] at hk
    rw [if_neg h1, if_neg h1]
    by_cases h2 : x = 92
    · rw [if_pos h2, if_pos h2, shf_st]
    rw [if_neg h2] at hk
    rw [if_neg h2, if_neg h2]
    by_cases h3 : x = 110
    · rw [if_pos h3, if_pos h3, shf_st]
    rw [if_neg h3] at hk
    rw [if_neg h3, if_neg h3]
    by_cases h4 : x = 116
    · rw [if_pos h4, if_pos h4, shf_st]
    rw [if_neg h4] at hk
    rw [if_neg h4, if_neg h4]
    by_cases h5 : x = 120
    · rw [if_pos h5] at hk
      rw [if_pos h5, if_pos h5]
      unfold hexeP at hk ⊢
      have d1 : (c :: x :: l).drop 2 = l := rfl
      have d2 : (c :: x :: (l ++ X)).drop 2 = l ++ X := rfl
      rw [d1] at hk ⊢
      rw [d2]
      by_cases h6 : 2 + (hexP l).2.toNat = (c :: x :: l).length
      · rw [if_pos h6] at hk
        exact absurd rfl hk
      rw [if_neg h6] at hk
      have h6' : (hexP l).2.toNat ≠ l.length := fun e => h6 (by rw [e]; simp; omega)
      rw [if_neg h6, hexP_app l h6']
      by_cases h7 : 0 < (hexP l).2.toNat ∧ (c :: x :: l)[2 + (hexP l).2.toNat]? = some 59
      · have h8 : 2 + (hexP l).2.toNat < (c :: x :: l).length := by
          rcases Nat.lt_or_ge (2 + (hexP l).2.toNat) (c :: x :: l).length with h | h
          · exact h
          · rw [List.getElem?_eq_none h] at h7; exact absurd h7.2 (by simp)
        have h9 : (c :: x :: (l ++ X))[2 + (hexP l).2.toNat]? = some 59 := by rw [hl, List.getElem?_append_left h8]; exact h7.2
        rw [if_pos h7, if_neg (by simp at h8 ⊢; omega), if_pos ⟨h7.1, h9⟩, shf_st]
      · rw [if_neg h7] at hk
        exact absurd rfl hk
    · rw [if_neg h5] at hk
      exact absurd rfl hk

theorem drop_at (P T X : List UInt8) {a : Nat} (ha : a ≤ T.length) : (P ++ (T ++ X)).drop (P.length + a) = T.drop a ++ X := by
  rw [← List.drop_drop, List.drop_left, List.drop_append_of_le_length ha]
theorem cut_at (P T X : List UInt8) {x y : Nat} (hy : y ≤ T.length) : cutL (P ++ (T ++ X)) (P.length + x) (P.length + y) = cutL T x y := by
  unfold cutL
  rw [List.take_length_add_append, List.take_append_of_le_length hy, ← List.drop_drop, List.drop_left]
theorem quo_app (P T X : List UInt8) (x : Nat) : ∀ (f f' a : Nat) (acc : List UInt8), f ≤ f' → (quoP T x f a acc).k ≠ 11 → quoP (P ++ (T ++ X)) (P.length + x) f' (P.length + a) acc = shf P.length (quoP T x f a acc)
  | 0, f', a, acc, _, hk => absurd rfl hk
  | f + 1, 0, a, acc, hf, _ => by omega
  | f + 1, f' + 1, a, acc, hf, hk => by
    unfold quoP at hk ⊢
    by_cases ha : a ≤ T.length
    · rw [drop_at P T X ha]
      match hd : T.drop a with
      | [] => rw [hd] at hk; exact absurd rfl hk
      | c :: l =>
        rw [hd] at hk
        rw [List.cons_append]
        simp only [] at hk ⊢
        by_cases h1 : c = 34
        · rw [if_pos h1, if_pos h1]
          unfold shf
          simp [Nat.add_assoc]
        rw [if_neg h1] at hk
        rw [if_neg h1, if_neg h1]
        by_cases h2 : c = 92
        · rw [if_pos h2] at hk
          rw [if_pos h2, if_pos h2]
          by_cases h3 : (escP T.length a (c :: l)).k = 11
          · rw [if_pos h3] at hk
            exact absurd h3 hk
          · rw [if_neg h3] at hk
            have he := esc_app X P.length T.length (P ++ (T ++ X)).length a (c :: l) h3
            rw [List.cons_append] at he
            rw [he, if_neg h3]
            have h3' : (shf P.length (escP T.length a (c :: l))).k ≠ 11 := h3
            rw [if_neg h3']
            exact quo_app P T X x f f' _ _ (by omega) hk
        · rw [if_neg h2] at hk
          rw [if_neg h2, if_neg h2, Nat.add_assoc]
          exact quo_app P T X x f f' _ _ (by omega) hk
    · have hd : T.drop a = [] := List.drop_eq_nil_of_le (by omega)
      rw [hd] at hk
      exact absurd rfl hk

/-- One reader does as another does, where that one comes to a datum. -/
structure Sim (P T X : List UInt8) {h : Nat} (r r' : RM h) : Prop where
  nx : ∀ ps a, a ≤ T.length → GoodP X (r.nx ps a) → r'.nx ps (P.length + a) = shf P.length (r.nx ps a)
  dt : ∀ q x y tr a', PieceOK T.length q → q.k ≠ 1 → q.k ≠ 2 → r.dt q = .inr (x, y, tr, a') → r'.dt (shf P.length q) = .inr (P.length + x, P.length + y, tr, P.length + a')
  rw : ∀ x k I a x' y' tr a', a ≤ T.length → r.rw x k I a = .inr (x', y', tr, a') → r'.rw (P.length + x) k I (P.length + a) = .inr (P.length + x', P.length + y', tr, P.length + a')

theorem dt_good {T : List UInt8} {f h : Nat} {q : LP} {v : Nat × Nat × Tr (h + 1) × Nat} (e : (rdM T f h).dt q = .inr v) : FineP q := by
  match f, e with
  | 0, e => cases e
  | f + 1, e =>
    have e : dtS T (rdM T f) h q = .inr v := e
    have k0 : q.k ≠ 0 := fun k => by unfold dtS at e; rw [if_pos k] at e; cases e
    have k11 : q.k ≠ 11 := fun k => by
      unfold dtS at e
      rw [if_neg (by omega), if_neg (by omega), if_neg (by omega), if_neg (by omega), if_neg (by omega), if_neg (by omega), if_neg (by omega)] at e
      cases e
    refine ⟨k0, k11, fun k7 => ?_⟩
    unfold dtS at e
    rw [if_neg k0, if_neg (by omega), if_neg (by omega), if_neg (by omega), if_neg (by omega), if_pos k7] at e
    rcases Nat.lt_or_ge q.y (q.x + 3) with hlt | hge
    · exfalso
      have h1 : (cutL T q.x q.y).drop 2 = [] := by
        apply List.drop_eq_nil_of_le
        unfold cutL
        rw [List.length_drop, List.length_take]
        omega
      unfold letP at e
      rw [h1] at e
      have h2 : letM [] = none := by decide
      rw [h2] at e
      have e : ofLP h (ftP q.x 14 q.a) = .inr v := e
      unfold ofLP at e
      rw [if_pos (show (ftP q.x 14 q.a).k = 11 from rfl)] at e
      cases e
    · exact hge
theorem nd_sim {P T X : List UInt8} {f h : Nat} {r' : RM h} (S : Sim P T X (rdM T f h) r') {a x y : Nat} {tr : Tr (h + 1)} {a' : Nat} (ha : a ≤ T.length) (e : (rdM T f h).dt ((rdM T f h).nx 0 a) = .inr (x, y, tr, a')) :
    r'.nx 0 (P.length + a) = shf P.length ((rdM T f h).nx 0 a) ∧ r'.dt (r'.nx 0 (P.length + a)) = .inr (P.length + x, P.length + y, tr, P.length + a') := by
  have hn := (rdM_ok T f h).1 0 a ha
  have e1 := S.nx 0 a ha ((dt_good e).good X)
  exact ⟨e1, by rw [e1]; exact S.dt _ _ _ _ _ hn.1.1 hn.1.2.1 hn.1.2.2 e⟩

theorem sim_all (P T X : List UInt8) (hX : Brk X) : ∀ (f f' h : Nat), f ≤ f' → Sim P T X (rdM T f h) (rdM (P ++ (T ++ X)) f' h)
  | 0, f', h, _ => ⟨fun ps a _ hg => absurd rfl hg.1, fun q x y tr a' _ _ _ e => (by cases e), fun x k I a x' y' tr a' _ e => (by cases e)⟩
  | f + 1, 0, h, hf => by omega
  | f + 1, g + 1, h, hf => by
    have ih := fun h' => sim_all P T X hX f g h' (by omega)
    have ok := rdM_ok T f
    refine ⟨fun ps a ha hg => ?_, fun q x y tr a' hq k1 k2 e => ?_, fun x k I a x' y' tr a' ha e => ?_⟩
    · have hP := piece_ok T.length a (T.drop a) List.length_drop ha
      have hg : GoodP X (nxS T (rdM T f h) ps a) := hg
      show nxS (P ++ (T ++ X)) (rdM (P ++ (T ++ X)) g h) ps (P.length + a) = shf P.length (nxS T (rdM T f h) ps a)
      unfold nxS at hg ⊢
      rw [drop_at P T X ha]
      have hpa := piece_app hX P.length T.length (P ++ (T ++ X)).length a (T.drop a)
      generalize pieceP T.length a (T.drop a) = q0 at *
      by_cases c1 : q0.k = 1
      · rw [if_pos c1] at hg
        have e1 := hpa (FineP.good ⟨by omega, by omega, by omega⟩ X)
        rw [e1, if_pos c1, if_pos (show (shf P.length q0).k = 1 from c1)]
        exact (ih h).nx ps _ hP.2.2.1 hg
      rw [if_neg c1] at hg
      rw [if_neg c1]
      by_cases c2 : q0.k = 2
      · rw [if_pos c2] at hg
        have e1 := hpa (FineP.good ⟨by omega, by omega, by omega⟩ X)
        rw [e1, if_pos c2, if_neg (show ¬ (shf P.length q0).k = 1 from c1), if_pos (show (shf P.length q0).k = 2 from c2)]
        exact (ih h).nx (ps + 1) _ hP.2.2.1 hg
      rw [if_neg c2] at hg
      rw [if_neg c2]
      by_cases c3 : 0 < ps
      · rw [if_pos c3] at hg
        rw [if_pos c3]
        have hd := (ok h).2.1 q0 hP.1 c1 c2
        match hr : (rdM T f h).dt q0 with
        | .inl q =>
          rw [hr] at hg hd
          exact absurd hd hg.1
        | .inr (x2, y2, tr2, a2) =>
          rw [hr] at hg hd
          have e1 := hpa ((dt_good hr).good X)
          rw [e1, if_neg (show ¬ (shf P.length q0).k = 1 from c1), if_neg (show ¬ (shf P.length q0).k = 2 from c2), if_pos c3, (ih h).dt q0 x2 y2 tr2 a2 hP.1 c1 c2 hr]
          exact (ih h).nx (ps - 1) a2 hd.2.1 hg
      · rw [if_neg c3] at hg
        have e1 := hpa hg
        rw [e1, if_neg c3, if_neg (show ¬ (shf P.length q0).k = 1 from c1), if_neg (show ¬ (shf P.length q0).k = 2 from c2), if_neg c3]
    · have hgd := dt_good e
      have e : dtS T (rdM T f) h q = .inr (x, y, tr, a') := e
      show dtS (P ++ (T ++ X)) (rdM (P ++ (T ++ X)) g) h (shf P.length q) = _
      obtain ⟨hpa, hpy, hpx, hp7⟩ := hq.at hgd.2.1
      have hyl : q.y ≤ T.length := by omega
      have hcut := cut_at P T X (x := q.x) hyl
      unfold dtS at e ⊢
      have kk : (shf P.length q).k = q.k := rfl
      rw [kk]
      rw [if_neg hgd.1] at e
      rw [if_neg hgd.1]
      by_cases c4 : q.k = 4
      · rw [if_pos c4] at e; cases e
      rw [if_neg c4] at e
      rw [if_neg c4]
      by_cases c8 : q.k = 8
      · rw [if_pos c8] at e; cases e
      rw [if_neg c8] at e
      rw [if_neg c8]
      by_cases c35 : q.k = 3 ∨ q.k = 5
      · rw [if_pos c35] at e
        rw [if_pos c35]
        cases h with
        | zero => cases e
        | succ h' =>
          have e : nestM T (rdM T f h') q = .inr (x, y, tr, a') := e
          show nestM (P ++ (T ++ X)) (rdM (P ++ (T ++ X)) g h') (shf P.length q) = _
          unfold nestM at e ⊢
          have hc' : cutL (P ++ (T ++ X)) (shf P.length q).x (shf P.length q).y = cutL T q.x q.y := hcut
          rw [hc']
          split
          · rename_i hc
            rw [if_pos hc] at e
            exact (ih h').rw q.x 6 [] q.a x y tr a' hpa e
          rename_i hc
          rw [if_neg hc] at e
          split
          · rename_i hc2
            rw [if_pos hc2] at e
            exact (ih h').rw q.x 7 [] q.a x y tr a' hpa e
          rename_i hc2
          rw [if_neg hc2] at e
          unfold abM at e ⊢
          rw [hc']
          match hr : (rdM T f h').dt ((rdM T f h').nx 0 q.a) with
          | .inl q' => rw [hr] at e; cases e
          | .inr (x2, y2, tr2, a2) =>
            rw [hr] at e
            have e2 := (nd_sim (ih h') hpa hr).2
            have e3 : (rdM (P ++ (T ++ X)) g h').dt ((rdM (P ++ (T ++ X)) g h').nx 0 (shf P.length q).a) = .inr (P.length + x2, P.length + y2, tr2, P.length + a2) := e2
            rw [e3]
            simp only [Sum.inr.injEq, Prod.mk.injEq] at e ⊢
            obtain ⟨rfl, rfl, rfl, rfl⟩ := e
            exact ⟨rfl, rfl, rfl, rfl⟩
      rw [if_neg c35] at e
      rw [if_neg c35]
      by_cases c6 : q.k = 6
      · rw [if_pos c6] at e
        rw [if_pos c6]
        unfold ofLP at e ⊢
        by_cases hk : (quoP T q.x (T.length + 1) q.a []).k = 11
        · rw [if_pos hk] at e; cases e
        · rw [if_neg hk] at e
          have hqa := quo_app P T X q.x (T.length + 1) ((P ++ (T ++ X)).length + 1) q.a [] (by simp; omega) hk
          have hqa' : quoP (P ++ (T ++ X)) (shf P.length q).x ((P ++ (T ++ X)).length + 1) (shf P.length q).a [] = _ := hqa
          rw [hqa', if_neg (show ¬ (shf P.length (quoP T q.x (T.length + 1) q.a [])).k = 11 from hk)]
          simp only [Sum.inr.injEq, Prod.mk.injEq] at e ⊢
          obtain ⟨rfl, rfl, rfl, rfl⟩ := e
          exact ⟨rfl, rfl, rfl, rfl⟩
      rw [if_neg c6] at e
      rw [if_neg c6]
      by_cases c7 : q.k = 7
      · rw [if_pos c7] at e
        rw [if_pos c7]
        unfold letP at e ⊢
        have hc' : cutL (P ++ (T ++ X)) (shf P.length q).x (shf P.length q).y = cutL T q.x q.y := hcut
        rw [hc']
        match hl : letM ((cutL T q.x q.y).drop 2) with
        | none =>
          rw [hl] at e
          have e : ofLP h (ftP q.x 14 q.a) = .inr (x, y, tr, a') := e
          unfold ofLP at e
          rw [if_pos (show (ftP q.x 14 q.a).k = 11 from rfl)] at e
          cases e
        | some v =>
          rw [hl] at e
          unfold ofLP at e ⊢
          have e : (Sum.inr (q.x, q.y, lfT h ⟨3, v, false, [], ⟨#[]⟩⟩, q.a) : RD (h + 1)) = .inr (x, y, tr, a') := e
          show (Sum.inr (P.length + q.x, P.length + q.y, lfT h ⟨3, v, false, [], ⟨#[]⟩⟩, P.length + q.a) : RD (h + 1)) = _
          simp only [Sum.inr.injEq, Prod.mk.injEq] at e ⊢
          obtain ⟨rfl, rfl, rfl, rfl⟩ := e
          exact ⟨rfl, rfl, rfl, rfl⟩
      rw [if_neg c7] at e
      rw [if_neg c7]
      by_cases c9 : q.k = 9
      · rw [if_pos c9] at e
        rw [if_pos c9]
        unfold atomR at e ⊢
        have hc' : cutL (P ++ (T ++ X)) (shf P.length q).x (shf P.length q).y = cutL T q.x q.y := hcut
        rw [hc']
        match hl : atomM (cutL T q.x q.y) with
        | none => rw [hl] at e; cases e
        | some v =>
          rw [hl] at e
          simp only [Sum.inr.injEq, Prod.mk.injEq] at e ⊢
          obtain ⟨rfl, rfl, rfl, rfl⟩ := e
          exact ⟨rfl, rfl, rfl, rfl⟩
      · rw [if_neg c9] at e
        cases e
    · have e : rwS (rdM T f h) x k I a = .inr (x', y', tr, a') := e
      show rwS (rdM (P ++ (T ++ X)) g h) (P.length + x) k I (P.length + a) = _
      have hn := (ok h).1 0 a ha
      unfold rwS at e ⊢
      by_cases c4 : ((rdM T f h).nx 0 a).k = 4
      · rw [if_pos c4] at e
        rw [(ih h).nx 0 a ha (FineP.good ⟨by omega, by omega, by omega⟩ X), if_pos (show (shf P.length ((rdM T f h).nx 0 a)).k = 4 from c4)]
        simp only [Sum.inr.injEq, Prod.mk.injEq] at e ⊢
        obtain ⟨rfl, rfl, rfl, rfl⟩ := e
        exact ⟨rfl, rfl, rfl, rfl⟩
      rw [if_neg c4] at e
      by_cases c8 : ((rdM T f h).nx 0 a).k = 8 ∧ k = 6 ∧ I ≠ []
      · rw [if_pos c8] at e
        have h1 := hn.2 (by omega)
        rw [(ih h).nx 0 a ha (FineP.good ⟨by omega, by omega, by omega⟩ X), if_neg (show ¬ (shf P.length ((rdM T f h).nx 0 a)).k = 4 from c4), if_pos (show (shf P.length ((rdM T f h).nx 0 a)).k = 8 ∧ k = 6 ∧ I ≠ [] from c8)]
        have ha2 := h1.2.1
        show dotM _ _ _ (P.length + ((rdM T f h).nx 0 a).a) = _
        generalize ((rdM T f h).nx 0 a).a = a2 at *
        have hn2 := (ok h).1 0 a2 ha2
        unfold dotM at e ⊢
        by_cases d4 : ((rdM T f h).nx 0 a2).k = 4
        · rw [if_pos d4] at e; cases e
        rw [if_neg d4] at e
        match hr : (rdM T f h).dt ((rdM T f h).nx 0 a2) with
        | .inl q' => rw [hr] at e; cases e
        | .inr (x3, y3, tr3, a3) =>
          rw [hr] at e
          obtain ⟨f1, f2⟩ := nd_sim (ih h) ha2 hr
          rw [if_neg (by rw [f1]; exact d4), f2]
          have h3 := ((nd_ok (ok h) ha2).2 _ _ _ _ hr).2.1
          simp only [] at e ⊢
          by_cases d5 : ((rdM T f h).nx 0 a3).k = 4
          · rw [if_pos d5] at e
            rw [(ih h).nx 0 a3 h3 (FineP.good ⟨by omega, by omega, by omega⟩ X), if_pos (show (shf P.length ((rdM T f h).nx 0 a3)).k = 4 from d5)]
            simp only [Sum.inr.injEq, Prod.mk.injEq] at e ⊢
            obtain ⟨rfl, rfl, rfl, rfl⟩ := e
            exact ⟨rfl, rfl, rfl, rfl⟩
          · rw [if_neg d5] at e
            split at e
            · split at e <;> cases e
            · cases e
      · rw [if_neg c8] at e
        match hr : (rdM T f h).dt ((rdM T f h).nx 0 a) with
        | .inl q' => rw [hr] at e; cases e
        | .inr (x3, y3, tr3, a3) =>
          rw [hr] at e
          obtain ⟨f1, f2⟩ := nd_sim (ih h) ha hr
          rw [if_neg (by rw [f1]; exact c4), if_neg (by rw [f1]; exact c8), f2]
          exact (ih h).rw x k (I ++ [tr3]) a3 x' y' tr a' ((nd_ok (ok h) ha).2 _ _ _ _ hr).2.1 e

theorem shf_zero (q : LP) : shf 0 q = q := by
  unfold shf
  simp
theorem mono_sim (T : List UInt8) {f f' : Nat} (h : Nat) (hf : f ≤ f') : Sim [] T [] (rdM T f h) (rdM T f' h) := by
  have := sim_all [] T [] (.inl rfl) f f' h hf
  rw [List.append_nil, List.nil_append] at this
  exact this
theorem nx_mono {T : List UInt8} {f f' h ps a : Nat} (hf : f ≤ f') (ha : a ≤ T.length) (hk : ((rdM T f h).nx ps a).k ≠ 11) : (rdM T f' h).nx ps a = (rdM T f h).nx ps a := by
  have := (mono_sim T h hf).nx ps a ha ⟨hk, .inl rfl⟩
  rw [List.length_nil, Nat.zero_add, shf_zero] at this
  exact this
theorem nd_mono {T : List UInt8} {f f' h a x y : Nat} {tr : Tr (h + 1)} {a' : Nat} (hf : f ≤ f') (ha : a ≤ T.length) (e : (rdM T f h).dt ((rdM T f h).nx 0 a) = .inr (x, y, tr, a')) : (rdM T f' h).nx 0 a = (rdM T f h).nx 0 a ∧ (rdM T f' h).dt ((rdM T f' h).nx 0 a) = .inr (x, y, tr, a') := by
  have := nd_sim (mono_sim T h hf) ha e
  simp only [List.length_nil, Nat.zero_add, shf_zero] at this
  exact this
theorem piece_k0 {n a : Nat} {l : List UInt8} (h : (pieceP n a l).k = 0) : l = [] := by
  match l, h with
  | [], _ => rfl
  | c :: l, h =>
    exfalso
    have tk : ∀ (a l : List UInt8) (x : Nat), (tokP x l).k ≠ 0 := fun _ l x => by
      unfold tokP tkP
      simp only []
      split <;> decide
    unfold pieceP at h
    simp only [] at h
    split at h
    · exact absurd h (by unfold tkP; simp)
    split at h
    · exact absurd h (by unfold tkP; simp)
    split at h
    · exact absurd h (by unfold tkP; simp)
    split at h
    · exact absurd h (by unfold tkP; simp)
    split at h
    · exact absurd h (by unfold tkP; simp)
    split at h
    · exact absurd h (by unfold tkP; simp)
    split at h
    · split at h <;> exact absurd h (by unfold tkP; simp)
    split at h
    · unfold shP at h
      split at h
      · split at h
        · exact absurd h (by unfold ftP; simp)
        · exact absurd h (by unfold tkP; simp)
      split at h
      · exact absurd h (by unfold tkP; simp)
      split at h
      · exact absurd h (by unfold tkP; simp)
      split at h
      · exact absurd h (by unfold tkP; simp)
      · exact tk [] _ _ h
    · exact tk [] _ _ h
/-- Where a text ends, reading goes on with what stands behind it. -/
theorem sim_end (P T X : List UInt8) (hX : Brk X) (h g : Nat) (hk : ((rdM (P ++ (T ++ X)) g h).nx 0 (P.length + T.length)).k ≠ 11) : ∀ (f ps a G : Nat), a ≤ T.length → ((rdM T f h).nx ps a).k = 0 → g + f ≤ G → (rdM (P ++ (T ++ X)) G h).nx ps (P.length + a) = (rdM (P ++ (T ++ X)) g h).nx 0 (P.length + T.length)
  | 0, ps, a, G, _, e, _ => by
    have e : (11 : Nat) = 0 := e
    omega
  | f + 1, ps, a, 0, _, _, hG => by omega
  | f + 1, ps, a, G + 1, ha, e, hG => by
    have hP := piece_ok T.length a (T.drop a) List.length_drop ha
    have ok := rdM_ok T f h
    have e : (nxS T (rdM T f h) ps a).k = 0 := e
    have S := sim_all P T X hX f G h (by omega)
    by_cases c0 : (pieceP T.length a (T.drop a)).k = 0
    · have h1 := piece_k0 c0
      have h2 : a = T.length := by
        have := List.drop_eq_nil_iff.1 h1
        omega
      subst h2
      have h3 : ps = 0 := by
        rcases Nat.eq_zero_or_pos ps with hp | hp
        · exact hp
        · exfalso
          unfold nxS at e
          rw [if_neg (by omega), if_neg (by omega), if_pos hp] at e
          have hd := ok.2.1 _ hP.1 (by omega) (by omega)
          match hr : (rdM T f h).dt (pieceP T.length T.length (T.drop T.length)) with
          | .inl q =>
            rw [hr] at e hd
            have hd : q.k = 11 := hd
            have e : q.k = 0 := e
            omega
          | .inr v => exact (dt_good hr).1 c0
      subst h3
      exact nx_mono (by omega) (by simp) hk
    · show nxS (P ++ (T ++ X)) (rdM (P ++ (T ++ X)) G h) ps (P.length + a) = _
      unfold nxS at e ⊢
      rw [drop_at P T X ha]
      have hpa := piece_app hX P.length T.length (P ++ (T ++ X)).length a (T.drop a)
      generalize pieceP T.length a (T.drop a) = q0 at *
      by_cases c1 : q0.k = 1
      · rw [if_pos c1] at e
        rw [hpa (FineP.good ⟨by omega, by omega, by omega⟩ X), if_pos (show (shf P.length q0).k = 1 from c1)]
        exact sim_end P T X hX h g hk f ps _ G hP.2.2.1 e (by omega)
      rw [if_neg c1] at e
      by_cases c2 : q0.k = 2
      · rw [if_pos c2] at e
        rw [hpa (FineP.good ⟨by omega, by omega, by omega⟩ X), if_neg (show ¬ (shf P.length q0).k = 1 from c1), if_pos (show (shf P.length q0).k = 2 from c2)]
        exact sim_end P T X hX h g hk f (ps + 1) _ G hP.2.2.1 e (by omega)
      rw [if_neg c2] at e
      by_cases c3 : 0 < ps
      · rw [if_pos c3] at e
        have hd := ok.2.1 q0 hP.1 c1 c2
        match hr : (rdM T f h).dt q0 with
        | .inl q =>
          rw [hr] at e hd
          have hd : q.k = 11 := hd
          have e : q.k = 0 := e
          omega
        | .inr (x2, y2, tr2, a2) =>
          rw [hr] at e hd
          rw [hpa ((dt_good hr).good X), if_neg (show ¬ (shf P.length q0).k = 1 from c1), if_neg (show ¬ (shf P.length q0).k = 2 from c2), if_pos c3, S.dt q0 x2 y2 tr2 a2 hP.1 c1 c2 hr]
          exact sim_end P T X hX h g hk f (ps - 1) a2 G hd.2.1 e (by omega)
      · rw [if_neg c3] at e
        exact absurd e c0

theorem allR_app {h : Nat} (r : RM h) (I0 : List (Tr (h + 1))) : ∀ (g a : Nat) (I1 : List (Tr (h + 1))), allR r g a (I0 ++ I1) = (match allR r g a I1 with | .inl q => .inl q | .inr J => .inr (I0 ++ J))
  | 0, a, I1 => rfl
  | g + 1, a, I1 => by
    unfold allR
    split
    · rfl
    · match hr : r.dt (r.nx 0 a) with
      | .inl q => rfl
      | .inr (x, y, tr, a') =>
        simp only []
        rw [List.append_assoc]
        exact allR_app r I0 g a' (I1 ++ [tr])
theorem allR_one {h : Nat} {r : RM h} {g a : Nat} {tr : Tr (h + 1)} {J : List (Tr (h + 1))} (e : allR r g a ([] ++ [tr]) = .inr J) : ∃ J', J = tr :: J' ∧ allR r g a [] = .inr J' := by
  have h1 := allR_app r [tr] g a []
  rw [List.append_nil] at h1
  rw [List.nil_append, h1] at e
  match hr : allR r g a [] with
  | .inl q => rw [hr] at e; cases e
  | .inr J' =>
    rw [hr] at e
    simp only [Sum.inr.injEq] at e
    exact ⟨J', e.symm, rfl⟩
theorem allR_two {h : Nat} {r : RM h} {g a : Nat} {tr : Tr (h + 1)} {J : List (Tr (h + 1))} (e : allR r g a [] = .inr J) : allR r g a ([] ++ [tr]) = .inr (tr :: J) := by
  have h1 := allR_app r [tr] g a []
  rw [List.append_nil, e] at h1
  exact h1
theorem allR_inv {h : Nat} {r : RM h} {g a : Nat} {J : List (Tr (h + 1))} (e : allR r g a [] = .inr J) : ∃ g', g = g' + 1 ∧ (((r.nx 0 a).k = 0 ∧ J = []) ∨ ((r.nx 0 a).k ≠ 0 ∧ ∃ x y tr a' J', r.dt (r.nx 0 a) = .inr (x, y, tr, a') ∧ J = tr :: J' ∧ allR r g' a' [] = .inr J')) := by
  match g, e with
  | g + 1, e =>
    refine ⟨g, rfl, ?_⟩
    unfold allR at e
    split at e
    · rename_i h0
      simp only [Sum.inr.injEq] at e
      exact .inl ⟨h0, e.symm⟩
    · rename_i h0
      match hr : r.dt (r.nx 0 a) with
      | .inl q => rw [hr] at e; cases e
      | .inr (x, y, tr, a') =>
        rw [hr] at e
        obtain ⟨J', h1, h2⟩ := allR_one e
        exact .inr ⟨h0, x, y, tr, a', J', rfl, h1, h2⟩
theorem allR_nil {h : Nat} {r : RM h} (g : Nat) {a : Nat} (e : (r.nx 0 a).k = 0) : allR r (g + 1) a [] = .inr [] := by
  unfold allR
  rw [if_pos e]
theorem allR_cons {h : Nat} {r : RM h} {g a x y : Nat} {tr : Tr (h + 1)} {a' : Nat} {J : List (Tr (h + 1))} (k : (r.nx 0 a).k ≠ 0) (e : r.dt (r.nx 0 a) = .inr (x, y, tr, a')) (e2 : allR r g a' [] = .inr J) : allR r (g + 1) a [] = .inr (tr :: J) := by
  unfold allR
  rw [if_neg k, e]
  exact allR_two e2
/-- With more fuel the same. -/
theorem allR_mono {T : List UInt8} {f f' h : Nat} (hf : f ≤ f') : ∀ (g g' a : Nat) (J : List (Tr (h + 1))), a ≤ T.length → g ≤ g' → allR (rdM T f h) g a [] = .inr J → allR (rdM T f' h) g' a [] = .inr J
  | g, g', a, J, ha, hg, e => by
    obtain ⟨g1, rfl, h1⟩ := allR_inv e
    obtain ⟨g2, rfl⟩ : ∃ g2, g' = g2 + 1 := ⟨g' - 1, by omega⟩
    rcases h1 with ⟨h0, rfl⟩ | ⟨h0, x, y, tr, a', J', h2, rfl, h3⟩
    · exact allR_nil g2 (by rw [nx_mono hf ha (by omega)]; exact h0)
    · obtain ⟨k1, k2⟩ := nd_mono hf ha h2
      have ha' := ((nd_ok (rdM_ok T f h) ha).2 _ _ _ _ h2).2.1
      exact allR_cons (by rw [k1]; exact h0) k2 (allR_mono hf g1 g2 a' J' ha' (by omega) h3)
theorem allR_same {h : Nat} {r : RM h} {g a b : Nat} {J : List (Tr (h + 1))} (e : r.nx 0 a = r.nx 0 b) (e2 : allR r g b [] = .inr J) : allR r g a [] = .inr J := by
  obtain ⟨g1, rfl, h1⟩ := allR_inv e2
  rcases h1 with ⟨h0, rfl⟩ | ⟨h0, x, y, tr, a', J', h2, rfl, h3⟩
  · exact allR_nil g1 (by rw [e]; exact h0)
  · exact allR_cons (by rw [e]; exact h0) (by rw [e]; exact h2) h3
theorem allR_k {h g a : Nat} {T : List UInt8} {f : Nat} {J : List (Tr (h + 1))} (e : allR (rdM T f h) g a [] = .inr J) : ((rdM T f h).nx 0 a).k ≠ 11 := by
  obtain ⟨g1, -, h1⟩ := allR_inv e
  rcases h1 with ⟨h0, -⟩ | ⟨h0, x, y, tr, a', J', h2, -⟩
  · omega
  · exact (dt_good h2).2.1
/-- The data of a text, and those behind it. -/
theorem all_comp {P T X : List UInt8} (hX : Brk X) {f F h g2 : Nat} {K : List (Tr (h + 1))} (e2 : allR (rdM (P ++ (T ++ X)) F h) g2 (P.length + T.length) [] = .inr K) : ∀ (g a G : Nat) (J : List (Tr (h + 1))), a ≤ T.length → F + f ≤ G → allR (rdM T f h) g a [] = .inr J → allR (rdM (P ++ (T ++ X)) G h) (g + g2) (P.length + a) [] = .inr (J ++ K)
  | g, a, G, J, ha, hG, e => by
    obtain ⟨g1, rfl, h1⟩ := allR_inv e
    rcases h1 with ⟨h0, rfl⟩ | ⟨h0, x, y, tr, a', J', h2, rfl, h3⟩
    · have e3 := allR_mono (f' := G) (by omega) g2 (g1 + 1 + g2) _ K (by simp) (by omega) e2
      refine allR_same ?_ e3
      rw [sim_end P T X hX h F (allR_k e2) f 0 a G ha h0 hG]
      exact (nx_mono (by omega) (by simp) (allR_k e2)).symm
    · have S := sim_all P T X hX f G h (by omega)
      obtain ⟨k1, k2⟩ := nd_sim S ha h2
      have ha' := ((nd_ok (rdM_ok T f h) ha).2 _ _ _ _ h2).2.1
      rw [show g1 + 1 + g2 = (g1 + g2) + 1 by omega, List.cons_append]
      exact allR_cons (by rw [k1]; exact h0) k2 (all_comp hX e2 g1 a' G J' ha' hG h3)
/-- The data of what stands behind something. -/
theorem all_shift {P T : List UInt8} {f F h : Nat} (hF : f ≤ F) {g a : Nat} {J : List (Tr (h + 1))} (ha : a ≤ T.length) (e : allR (rdM T f h) g a [] = .inr J) : allR (rdM (P ++ T) F h) g (P.length + a) [] = .inr J := by
  have S := sim_all P T [] (.inl rfl) f F h hF
  rw [List.append_nil] at S
  have go : ∀ (g a : Nat) (J : List (Tr (h + 1))), a ≤ T.length → allR (rdM T f h) g a [] = .inr J → allR (rdM (P ++ T) F h) g (P.length + a) [] = .inr J := fun g => by
    induction g with
    | zero => intro a J _ e; cases e
    | succ g ih =>
      intro a J ha e
      obtain ⟨g1, hg1, h1⟩ := allR_inv e
      obtain rfl : g = g1 := by omega
      rcases h1 with ⟨h0, rfl⟩ | ⟨h0, x, y, tr, a', J', h2, rfl, h3⟩
      · exact allR_nil g (by rw [S.nx 0 a ha ⟨by omega, .inl rfl⟩]; exact h0)
      · obtain ⟨k1, k2⟩ := nd_sim S ha h2
        have ha' := ((nd_ok (rdM_ok T f h) ha).2 _ _ _ _ h2).2.1
        exact allR_cons (by rw [k1]; exact h0) k2 (ih a' J' ha' h3)
  exact go g a J ha e

end Go.Proofs.YteipogfolnlblaaDoor
