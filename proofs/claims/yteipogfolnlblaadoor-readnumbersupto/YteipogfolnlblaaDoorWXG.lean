/-
  What is proved here: what comes of reading, as a function of the text; no walk.
-/
import Derived.Test.YteipogfolnlblaaDoorWXAA
namespace Go.Proofs.YteipogfolnlblaaDoor
open Go Go.RowKit
/-- A datum, as one of greater height. -/
def upT : (h : Nat) → Tr h → Tr (h + 1)
  | 0, e => (show Empty from e).elim
  | h + 1, (k, n, b, L, t, I, R) => (k, n, b, L, t, I.map (upT h), R.map (upT h))

/-- What a reader with h levels left does: its next piece behind so many passed data, a datum from a piece on, a list's or a vector's items from a place on. -/
structure RM (h : Nat) where
  nx : Nat → Nat → LP
  dt : LP → RD (h + 1)
  rw : Nat → Int → List (Tr (h + 1)) → Nat → RD (h + 2)

def seqT {h : Nat} (k : Int) (I R : List (Tr h)) : Tr (h + 1) := (k, 0, false, [], ⟨#[]⟩, I, R)

/-- A list with what stands behind its dot. -/
def joinT {h : Nat} (I : List (Tr (h + 1))) (tr : Tr (h + 1)) : Tr (h + 2) :=
  match tr with
  | (k, n, b, L, t, J, R) => if k = 6 then seqT 6 (I ++ J.map (upT h)) (R.map (upT h)) else seqT 6 I [(k, n, b, L, t, J, R)]

def longN (l : List UInt8) : ByteArray :=
  if l = [39] then ⟨#[113, 117, 111, 116, 101]⟩ else if l = [96] then ⟨#[113, 117, 97, 115, 105, 113, 117, 111, 116, 101]⟩ else if l = [44] then ⟨#[117, 110, 113, 117, 111, 116, 101]⟩ else ⟨#[117, 110, 113, 117, 111, 116, 101, 45, 115, 112, 108, 105, 99, 105, 110, 103]⟩

def nxS (T : List UInt8) {h : Nat} (r : RM h) (ps a : Nat) : LP :=
  if (pieceP T.length a (T.drop a)).k = 1 then r.nx ps (pieceP T.length a (T.drop a)).a
  else if (pieceP T.length a (T.drop a)).k = 2 then r.nx (ps + 1) (pieceP T.length a (T.drop a)).a
  else if 0 < ps then (match r.dt (pieceP T.length a (T.drop a)) with | .inl q => q | .inr (_, _, _, a') => r.nx (ps - 1) a')
  else pieceP T.length a (T.drop a)

/-- Behind a list's dot. -/
def dotM {h : Nat} (r : RM h) (x : Nat) (I : List (Tr (h + 1))) (a : Nat) : RD (h + 2) :=
  if (r.nx 0 a).k = 4 then .inl (ftP (r.nx 0 a).x 15 (r.nx 0 a).a)
  else match r.dt (r.nx 0 a) with
    | .inl q => .inl q
    | .inr (_, _, tr, a1) =>
      if (r.nx 0 a1).k = 4 then .inr (x, (r.nx 0 a1).y, (joinT I tr), (r.nx 0 a1).a)
      else if (r.nx 0 a1).k = 0 ∨ (r.nx 0 a1).k = 11 then (match r.dt (r.nx 0 a1) with | .inl q => .inl q | .inr (_, _, _, a') => .inl (ftP 0 0 a'))
      else .inl (ftP (r.nx 0 a1).x 15 (r.nx 0 a1).a)

def rwS {h : Nat} (r : RM h) (x : Nat) (k : Int) (I : List (Tr (h + 1))) (a : Nat) : RD (h + 2) :=
  if (r.nx 0 a).k = 4 then .inr (x, (r.nx 0 a).y, (seqT k I []), (r.nx 0 a).a)
  else if (r.nx 0 a).k = 8 ∧ k = 6 ∧ I ≠ [] then dotM r x I (r.nx 0 a).a
  else match r.dt (r.nx 0 a) with
    | .inl q => .inl q
    | .inr (_, _, tr, a') => r.rw x k (I ++ [tr]) a'

def abM (T : List UInt8) {h : Nat} (r : RM h) (p : LP) : RD (h + 2) :=
  match r.dt (r.nx 0 p.a) with
  | .inl q => .inl q
  | .inr (_, y, tr, a') => .inr (p.x, y, (seqT 6 [lfT h ⟨5, 0, false, [], longN (cutL T p.x p.y)⟩, tr] []), a')

def nestM (T : List UInt8) {h : Nat} (r : RM h) (p : LP) : RD (h + 2) :=
  if cutL T p.x p.y = [40] then r.rw p.x 6 [] p.a else if cutL T p.x p.y = [35, 40] then r.rw p.x 7 [] p.a else abM T r p

def inM (T : List UInt8) (R : (h : Nat) → RM h) (h : Nat) (p : LP) : RD (h + 1) :=
  match h with
  | 0 => .inl (ftP p.x 16 p.a)
  | h' + 1 => nestM T (R h') p

def dtS (T : List UInt8) (R : (h : Nat) → RM h) (h : Nat) (p : LP) : RD (h + 1) :=
  if p.k = 0 then .inl (ftP T.length 10 p.a)
  else if p.k = 4 then .inl (ftP p.x 11 p.a)
  else if p.k = 8 then .inl (ftP p.x 15 p.a)
  else if p.k = 3 ∨ p.k = 5 then inM T R h p
  else if p.k = 6 then ofLP h (quoP T p.x (T.length + 1) p.a [])
  else if p.k = 7 then ofLP h (letP T p.x p.y p.a)
  else if p.k = 9 then atomR h T p.x p.y p.a
  else .inl p

def rdM (T : List UInt8) : Nat → (h : Nat) → RM h
  | 0, _ => ⟨fun _ a => ftP 0 0 a, fun p => .inl (ftP 0 0 p.a), fun _ _ _ a => .inl (ftP 0 0 a)⟩
  | f + 1, h => ⟨nxS T (rdM T f h), dtS T (rdM T f) h, rwS (rdM T f h)⟩

/-- A piece that was taken, or something that is wrong. -/
def PieceOK (n : Nat) (p : LP) : Prop := p.k = 11 ∨ ∃ x L k, p = tkP x L k ∧ x + L ≤ n ∧ k ≤ 9 ∧ (k = 0 → L = 0 ∧ x = n) ∧ (k ≠ 0 → 1 ≤ L) ∧ (k = 7 → 2 ≤ L)

theorem tokL_pos (c : UInt8) (l : List UInt8) (h : dlx c < 0) : 1 ≤ tokL (c :: l) := by
  simp [tokL, h]

theorem lineL_pos (l : List UInt8) : 1 ≤ lineL (59 :: l) := by
  unfold lineL
  have h1 : Lib.indexByte (59 :: l) 10 ≠ 0 := by
    have h2 := Lib.indexByte_ge l 10
    simp only [Lib.indexByte]
    rw [if_neg (by decide)]
    by_cases h3 : (Lib.indexByte l 10 == -1) = true
    · rw [if_pos h3]; decide
    · rw [if_neg h3]
      intro e
      have h4 : Lib.indexByte l 10 ≠ -1 := fun e => h3 (beq_iff_eq.2 e)
      omega
  split
  · omega
  · simp

theorem piece_ok (n a : Nat) (l : List UInt8) (hl : l.length = n - a) (ha : a ≤ n) : PieceOK n (pieceP n a l) ∧ a ≤ (pieceP n a l).a ∧ (pieceP n a l).a ≤ n ∧ ((pieceP n a l).k ≠ 0 → (pieceP n a l).k ≠ 11 → a < (pieceP n a l).a) := by
  have tk : ∀ L k, a + L ≤ n → k ≤ 9 → k ≠ 0 → 1 ≤ L → (k = 7 → 2 ≤ L) → PieceOK n (tkP a L k) ∧ a ≤ (tkP a L k).a ∧ (tkP a L k).a ≤ n ∧ ((tkP a L k).k ≠ 0 → (tkP a L k).k ≠ 11 → a < (tkP a L k).a) := fun L k h1 h2 h3 h4 h5 =>
    ⟨.inr ⟨a, L, k, rfl, h1, h2, fun e => absurd e h3, fun _ => h4, h5⟩, by show a ≤ a + L; omega, h1, fun _ _ => by show a < a + L; omega⟩
  have tok : ∀ c l', l = c :: l' → dlx c < 0 → PieceOK n (tokP a l) ∧ a ≤ (tokP a l).a ∧ (tokP a l).a ≤ n ∧ ((tokP a l).k ≠ 0 → (tokP a l).k ≠ 11 → a < (tokP a l).a) := fun c l' e hc => by
    have h1 := tokL_le l
    have h2 : 1 ≤ tokL l := by rw [e]; exact tokL_pos c l' hc
    unfold tokP
    split
    · exact tk _ 8 (by omega) (by decide) (by decide) h2 (fun e => by omega)
    · exact tk _ 9 (by omega) (by decide) (by decide) h2 (fun e => by omega)
  match l, hl with
  | [], hl =>
    simp only [List.length_nil] at hl
    exact ⟨.inr ⟨a, 0, 0, rfl, by omega, by decide, fun _ => ⟨rfl, by omega⟩, fun e => absurd rfl e, fun e => by omega⟩, Nat.le_refl _, ha, fun e => absurd rfl e⟩
  | c :: l, hl =>
    have hl' : l.length + 1 = n - a := by simpa using hl
    unfold pieceP
    simp only []
    split
    · exact tk 1 1 (by omega) (by decide) (by decide) (by decide) (by decide)
    rename_i b1
    split
    · rename_i e
      subst e
      have := lineL_le (59 :: l)
      exact tk _ 1 (by omega) (by decide) (by decide) (lineL_pos l) (fun e => by omega)
    rename_i b2
    split
    · exact tk 1 3 (by omega) (by decide) (by decide) (by decide) (by decide)
    rename_i b3
    split
    · exact tk 1 4 (by omega) (by decide) (by decide) (by decide) (by decide)
    rename_i b4
    split
    · exact tk 1 6 (by omega) (by decide) (by decide) (by decide) (by decide)
    rename_i b5
    split
    · exact tk 1 5 (by omega) (by decide) (by decide) (by decide) (by decide)
    rename_i b6
    split
    · split
      · rename_i hp
        obtain ⟨l', e⟩ := pref_two _ _ _ hp
        have : l.length = l'.length + 1 := by cases e; rfl
        exact tk 2 5 (by omega) (by decide) (by decide) (by decide) (by decide)
      · exact tk 1 5 (by omega) (by decide) (by decide) (by decide) (by decide)
    rename_i b7
    have hc : dlx c < 0 := by
      have n0 : c ≠ 32 := fun e => b1 (.inl e)
      have n1 : c ≠ 9 := fun e => b1 (.inr (.inl e))
      have n2 : c ≠ 10 := fun e => b1 (.inr (.inr (.inl e)))
      have n3 : c ≠ 13 := fun e => b1 (.inr (.inr (.inr e)))
      have n4 : c ≠ 39 := fun e => b6 (.inl e)
      simp [dlx, Lib.indexByte, n0.symm, n1.symm, n2.symm, n3.symm, n4.symm, Ne.symm b2, Ne.symm b3, Ne.symm b4, Ne.symm b5]
    split
    · unfold shP
      split
      · split
        · exact ⟨.inl rfl, Nat.le_refl _, ha, fun _ e => absurd rfl e⟩
        · rename_i L hL
          have := comM_le _ _ _ _ (Nat.le_refl _) hL
          exact tk _ 1 (by omega) (by decide) (by decide) this.2 (fun e => by omega)
      split
      · rename_i hp
        obtain ⟨l', e⟩ := pref_two _ _ _ hp
        have : l.length = l'.length + 1 := by cases e; rfl
        exact tk 2 2 (by omega) (by decide) (by decide) (by decide) (by decide)
      split
      · rename_i hp
        obtain ⟨l', e⟩ := pref_two _ _ _ hp
        have : l.length = l'.length + 1 := by cases e; rfl
        exact tk 2 3 (by omega) (by decide) (by decide) (by decide) (by decide)
      split
      · rename_i hp
        obtain ⟨l', e⟩ := pref_two _ _ _ hp
        have h1 : l.length = l'.length + 1 := by cases e; rfl
        have h2 := tokL_le ((c :: l).drop (min 3 (c :: l).length))
        rw [List.length_drop] at h2
        simp only [List.length_cons] at h2 ⊢
        exact tk _ 7 (by omega) (by decide) (by decide) (by omega) (by omega)
      · exact tok c l rfl hc
    · exact tok c l rfl hc

/-- Readers go on, and stay in the text. -/
def RDok (n a : Nat) {h : Nat} (r : RD h) : Prop := match r with
  | .inl q => q.k = 11
  | .inr (_, y, _, a') => a ≤ a' ∧ a' ≤ n ∧ y = a'

def RMok (n : Nat) {h : Nat} (r : RM h) : Prop :=
  (∀ ps a, a ≤ n → (PieceOK n (r.nx ps a) ∧ (r.nx ps a).k ≠ 1 ∧ (r.nx ps a).k ≠ 2) ∧ ((r.nx ps a).k ≠ 11 → a ≤ (r.nx ps a).a ∧ (r.nx ps a).a ≤ n ∧ ((r.nx ps a).k ≠ 0 → a < (r.nx ps a).a))) ∧
  (∀ p, PieceOK n p → p.k ≠ 1 → p.k ≠ 2 → RDok n p.a (r.dt p)) ∧
  (∀ x k I a, a ≤ n → RDok n a (r.rw x k I a))

theorem RDok.mono {n a b h : Nat} {r : RD h} (hr : RDok n a r) (hb : b ≤ a) : RDok n b r := by
  cases r with
  | inl q => exact hr
  | inr v0 =>
    obtain ⟨x, y, tr, a'⟩ := v0
    exact ⟨Nat.le_trans hb hr.1, hr.2⟩

theorem PieceOK.at {n : Nat} {p : LP} (h : PieceOK n p) (hk : p.k ≠ 11) : p.a ≤ n ∧ p.y = p.a ∧ (p.k ≠ 0 → p.x < p.y) ∧ (p.k = 7 → p.x + 2 ≤ p.y) := by
  rcases h with h | ⟨x, L, k, rfl, h1, h2, h3, h4, h5⟩
  · exact absurd h hk
  · exact ⟨h1, rfl, fun e => by show x < x + L; have := h4 e; omega, fun e => by show x + 2 ≤ x + L; have := h5 e; omega⟩

theorem dt_bad (T : List UInt8) (f h : Nat) (p : LP) (hk : p.k = 11) : ∃ q, (rdM T f h).dt p = .inl q := by
  match f with
  | 0 => exact ⟨_, rfl⟩
  | f + 1 =>
    refine ⟨p, ?_⟩
    show dtS T (rdM T f) h p = _
    unfold dtS
    rw [if_neg (by omega), if_neg (by omega), if_neg (by omega), if_neg (by omega), if_neg (by omega), if_neg (by omega), if_neg (by omega)]

/-- A datum from the next piece on. -/
theorem nd_ok {T : List UInt8} {f h a : Nat} (ih : RMok T.length (rdM T f h)) (ha : a ≤ T.length) : RDok T.length a ((rdM T f h).dt ((rdM T f h).nx 0 a)) ∧ (∀ x y tr a', (rdM T f h).dt ((rdM T f h).nx 0 a) = .inr (x, y, tr, a') → a ≤ a' ∧ a' ≤ T.length ∧ y = a') := by
  have hn := ih.1 0 a ha
  have hd := ih.2.1 _ hn.1.1 hn.1.2.1 hn.1.2.2
  have key : RDok T.length a ((rdM T f h).dt ((rdM T f h).nx 0 a)) := by
    by_cases hk : ((rdM T f h).nx 0 a).k = 11
    · obtain ⟨q, e⟩ := dt_bad T f h _ hk
      rw [e] at hd ⊢
      exact hd
    · exact hd.mono (hn.2 hk).1
  exact ⟨key, fun x y tr a' e => by rw [e] at key; exact key⟩

theorem rdM_ok (T : List UInt8) : ∀ (f h : Nat), RMok T.length (rdM T f h)
  | 0, h => ⟨fun ps a _ => ⟨⟨.inl rfl, by show (11 : Nat) ≠ 1; decide, by show (11 : Nat) ≠ 2; decide⟩, fun e => absurd rfl e⟩, fun p _ _ _ => rfl, fun x k I a _ => rfl⟩
  | f + 1, h => by
    have ih := rdM_ok T f
    refine ⟨fun ps a ha => ?_, fun p hp k1 k2 => ?_, fun x k I a ha => ?_⟩
    · have hP := piece_ok T.length a (T.drop a) List.length_drop ha
      have hgo : ∀ (ps' a' : Nat), a < a' → a' ≤ T.length → (PieceOK T.length ((rdM T f h).nx ps' a') ∧ ((rdM T f h).nx ps' a').k ≠ 1 ∧ ((rdM T f h).nx ps' a').k ≠ 2) ∧ (((rdM T f h).nx ps' a').k ≠ 11 → a ≤ ((rdM T f h).nx ps' a').a ∧ ((rdM T f h).nx ps' a').a ≤ T.length ∧ (((rdM T f h).nx ps' a').k ≠ 0 → a < ((rdM T f h).nx ps' a').a)) := fun ps' a' h1 h2 => by
        have := (ih h).1 ps' a' h2
        exact ⟨this.1, fun e => ⟨by have := (this.2 e).1; omega, (this.2 e).2.1, fun _ => by have := (this.2 e).1; omega⟩⟩
      show (PieceOK T.length (nxS T (rdM T f h) ps a) ∧ (nxS T (rdM T f h) ps a).k ≠ 1 ∧ (nxS T (rdM T f h) ps a).k ≠ 2) ∧ ((nxS T (rdM T f h) ps a).k ≠ 11 → a ≤ (nxS T (rdM T f h) ps a).a ∧ (nxS T (rdM T f h) ps a).a ≤ T.length ∧ ((nxS T (rdM T f h) ps a).k ≠ 0 → a < (nxS T (rdM T f h) ps a).a))
      unfold nxS
      split
      · rename_i e; exact hgo _ _ (hP.2.2.2 (by omega) (by omega)) hP.2.2.1
      rename_i e1
      split
      · rename_i e; exact hgo _ _ (hP.2.2.2 (by omega) (by omega)) hP.2.2.1
      rename_i e2
      split
      · have hd := (ih h).2.1 _ hP.1 e1 e2
        match hr : (rdM T f h).dt (pieceP T.length a (T.drop a)) with
        | .inl q =>
          rw [hr] at hd
          have hd : q.k = 11 := hd
          dsimp only
          exact ⟨⟨.inl hd, by omega, by omega⟩, fun e => absurd hd e⟩
        | .inr (x, y, tr, a') =>
          rw [hr] at hd
          obtain ⟨d1, d2, -⟩ := hd
          have g1 := hP.2.1
          have g2 := (ih h).1 (ps - 1) a' d2
          dsimp only
          exact ⟨g2.1, fun e => ⟨by have := (g2.2 e).1; omega, (g2.2 e).2.1, fun e0 => by have := (g2.2 e).2.2 e0; omega⟩⟩
      · exact ⟨⟨hP.1, e1, e2⟩, fun e => ⟨hP.2.1, hP.2.2.1, fun e0 => hP.2.2.2 e0 e⟩⟩
    · show RDok T.length p.a (dtS T (rdM T f) h p)
      unfold dtS
      split
      · rfl
      split
      · rfl
      split
      · rfl
      rename_i k0 k4 k8
      by_cases k11 : p.k = 11
      · rw [if_neg (by omega), if_neg (by omega), if_neg (by omega), if_neg (by omega)]; exact k11
      obtain ⟨hpa, hpy, hpx, hp7⟩ := hp.at k11
      split
      · unfold inM
        split
        · rfl
        · rename_i h'
          unfold nestM
          split
          · exact (ih h').2.2 _ _ _ _ hpa
          split
          · exact (ih h').2.2 _ _ _ _ hpa
          · unfold abM
            have hd := nd_ok (ih h') hpa
            match hr : (rdM T f h').dt ((rdM T f h').nx 0 p.a) with
            | .inl q => have := hd.1; rw [hr] at this; exact this
            | .inr (x, y, tr, a') => exact hd.2 _ _ _ _ hr
      split
      · have hq := quoP_ok T p.x (T.length + 1) p.a []
        unfold ofLP
        split
        · rename_i e; exact e
        · rename_i e
          rcases hq with ⟨h1, -⟩ | ⟨-, -, -, h4, h5, h6, -⟩
          · exact absurd h1 e
          · exact ⟨Nat.le_of_lt h5, h6, h4⟩
      split
      · unfold ofLP letP
        split
        · split
          · rfl
          · rename_i e; exact absurd rfl e
        · split
          · rename_i e; exact absurd e (by show ¬ ((10 : Nat) = 11); decide)
          · exact ⟨Nat.le_refl _, hpa, hpy⟩
      split
      · unfold atomR
        split
        · rfl
        · exact ⟨Nat.le_refl _, hpa, hpy⟩
      · rename_i k35 k6 k7 k9
        rcases hp with h | ⟨x, L, k, rfl, h1, h2, h3, h4, h5⟩
        · exact absurd h k11
        · have e : (tkP x L k).k = k := rfl
          rw [e] at k0 k1 k2 k4 k8 k35 k6 k7 k9
          omega
    · show RDok T.length a (rwS (rdM T f h) x k I a)
      have hn := (ih h).1 0 a ha
      have hd := nd_ok (ih h) ha
      unfold rwS
      split
      · rename_i e
        have h1 := hn.2 (by omega)
        have h2 := hn.1.1.at (by omega)
        exact ⟨h1.1, h1.2.1, h2.2.1⟩
      split
      · rename_i e4 e8
        have h1 := hn.2 (by omega)
        refine RDok.mono (a := ((rdM T f h).nx 0 a).a) ?_ h1.1
        generalize ((rdM T f h).nx 0 a).a = a2 at *
        have ha2 : a2 ≤ T.length := h1.2.1
        unfold dotM
        split
        · rfl
        · have hd2 := nd_ok (ih h) ha2
          match hr : (rdM T f h).dt ((rdM T f h).nx 0 a2) with
          | .inl q => have := hd2.1; rw [hr] at this; exact this
          | .inr (x2, y2, tr, a3) =>
            have h3 := hd2.2 _ _ _ _ hr
            have hn3 := (ih h).1 0 a3 h3.2.1
            dsimp only
            split
            · have g1 := hn3.2 (by omega)
              have g2 := hn3.1.1.at (by omega)
              exact ⟨by have := g1.1; omega, g1.2.1, g2.2.1⟩
            · split
              · split
                · rename_i q hq
                  have := (nd_ok (ih h) h3.2.1).1
                  rw [hq] at this
                  exact this
                · rfl
              · rfl
      · match hr : (rdM T f h).dt ((rdM T f h).nx 0 a) with
        | .inl q => have := hd.1; rw [hr] at this; exact this
        | .inr (x2, y2, tr, a') =>
          have h3 := hd.2 _ _ _ _ hr
          exact ((ih h).2.2 x k (I ++ [tr]) a' h3.2.1).mono h3.1

end Go.Proofs.YteipogfolnlblaaDoor
