/-
  What is proved here: lists within lists, as the model reads them; no walk. blanks and comments between texts turn nothing of what is read; no walk.
-/
import Derived.Test.YteipogfolnlblaaDoorUP
namespace Go.Proofs.YteipogfolnlblaaDoor
open Go Go.RowKit

/-- A datum from a place on, with that much fuel or more. -/
def RdAll (T : List UInt8) (h a : Nat) (R : RD (h + 1)) (G : Nat) : Prop := ∀ g, G ≤ g → (rdM T g h).dt ((rdM T g h).nx 0 a) = R
theorem nx_first {T : List UInt8} {g h a : Nat} (h1 : (pieceP T.length a (T.drop a)).k ≠ 1) (h2 : (pieceP T.length a (T.drop a)).k ≠ 2) : (rdM T (g + 1) h).nx 0 a = pieceP T.length a (T.drop a) := by
  show nxS T (rdM T g h) 0 a = _
  unfold nxS
  rw [if_neg h1, if_neg h2, if_neg (Nat.lt_irrefl 0)]
theorem cut_drop (T : List UInt8) (x m : Nat) : cutL T x (x + m) = (T.drop x).take m := by
  unfold cutL
  rw [List.drop_take]
  congr 1
  omega
/-- What opens a list, or stands for the datum x. -/
def Inn (l : List UInt8) : Prop := ∀ n a, (pieceP n a l).k = 3 ∨ (pieceP n a l).k = 5 ∨ (pieceP n a l).k = 9
structure Opn (op cl : List UInt8) (s : Nat) : Prop where
  inn : ∀ l, Inn (op ++ l)
  zero : ∀ T a l, T.drop a = op ++ l → ∃ q, RdAll T 0 a (.inl q) 2 ∧ q.x = a ∧ q.er = 16
  bad : ∀ T h a l q G, T.drop a = op ++ l → Inn l → 2 ≤ G → RdAll T h (a + op.length) (.inl q) G → RdAll T (h + 1) a (.inl q) (G + s)
  ok : ∀ T h a l x y tr a' r G, T.drop a = op ++ l → Inn l → 2 ≤ G → RdAll T h (a + op.length) (.inr (x, y, tr, a')) G → y = a' → T.drop a' = cl ++ r → ∃ y tr', RdAll T (h + 1) a (.inr (a, y, tr', a' + cl.length)) (G + s) ∧ y = a' + cl.length

theorem drop_more {T l : List UInt8} {a : Nat} (op : List UInt8) (e : T.drop a = op ++ l) : T.drop (a + op.length) = l := by
  rw [← List.drop_drop, e, List.drop_left]

theorem pieceO (n a : Nat) (l : List UInt8) : pieceP n a (40 :: l) = tkP a 1 3 := by
  unfold pieceP
  simp
theorem pieceC (n a : Nat) (l : List UInt8) : pieceP n a (41 :: l) = tkP a 1 4 := by
  unfold pieceP
  simp
theorem pieceV (n a : Nat) (l : List UInt8) : pieceP n a (35 :: 40 :: l) = tkP a 2 3 := by
  unfold pieceP
  simp [shP, Lib.hasPrefix, List.isPrefixOf]
theorem pieceQ (n a : Nat) (l : List UInt8) : pieceP n a (39 :: l) = tkP a 1 5 := by
  unfold pieceP
  simp
theorem pieceB (n a : Nat) (l : List UInt8) : pieceP n a (32 :: l) = tkP a 1 1 := by
  unfold pieceP
  simp
/-- A token of one letter. -/
theorem pieceX (n a : Nat) (c : UInt8) (hc : c = 120 ∨ c = 97) (l : List UInt8) (hl : l = [] ∨ ∃ d l', l = d :: l' ∧ ¬ dlx d < 0) : pieceP n a (c :: l) = tkP a 1 9 := by
  have h1 : dlx c < 0 := by rcases hc with rfl | rfl <;> decide
  have ht : tokL (c :: l) = 1 := by
    unfold tokL
    rcases hl with rfl | ⟨d, l', rfl, hd⟩
    · simp [h1]
    · simp [h1, hd]
  unfold pieceP
  have e : tokP a (c :: l) = tkP a 1 9 := by
    unfold tokP
    rw [ht]
    rcases hc with rfl | rfl <;> simp
  rcases hc with rfl | rfl <;> simpa using e

theorem rd_list {T : List UInt8} {h a m g : Nat} {kk : Int} {l : List UInt8} (hp : pieceP T.length a (T.drop a) = tkP a m 3) (hc : (cutL T a (a + m) = [40] ∧ kk = 6) ∨ (cutL T a (a + m) = [35, 40] ∧ kk = 7)) (hd : T.drop (a + m) = l) (hl : Inn l) :
    (rdM T (g + 2 + 1) (h + 1)).dt ((rdM T (g + 2 + 1) (h + 1)).nx 0 a) = (match (rdM T (g + 1) h).dt ((rdM T (g + 1) h).nx 0 (a + m)) with | .inl q => .inl q | .inr (_, _, tr, a') => (rdM T (g + 1) h).rw a kk [tr] a') := by
  have e1 : (rdM T (g + 2 + 1) (h + 1)).nx 0 a = tkP a m 3 := by
    rw [← hp]
    exact nx_first (by rw [hp]; show (3 : Nat) ≠ 1; decide) (by rw [hp]; show (3 : Nat) ≠ 2; decide)
  rw [e1]
  show dtS T (rdM T (g + 2)) (h + 1) (tkP a m 3) = _
  unfold dtS
  have k3 : (tkP a m 3).k = 3 := rfl
  rw [if_neg (by omega), if_neg (by omega), if_neg (by omega), if_pos (.inl k3)]
  show nestM T (rdM T (g + 2) h) (tkP a m 3) = _
  have hk := hl T.length (a + m)
  rw [← hd] at hk
  have e2 : (rdM T (g + 1) h).nx 0 (a + m) = pieceP T.length (a + m) (T.drop (a + m)) := nx_first (by omega) (by omega)
  have go : ∀ kk : Int, (rdM T (g + 2) h).rw a kk [] (a + m) = (match (rdM T (g + 1) h).dt ((rdM T (g + 1) h).nx 0 (a + m)) with | .inl q => .inl q | .inr (_, _, tr, a') => (rdM T (g + 1) h).rw a kk [tr] a') := fun kk => by
    show rwS (rdM T (g + 1) h) a kk [] (a + m) = _
    unfold rwS
    rw [if_neg (by rw [e2]; omega), if_neg (by rw [e2]; omega)]
    rfl
  unfold nestM
  have hx : cutL T (tkP a m 3).x (tkP a m 3).y = cutL T a (a + m) := rfl
  rw [hx]
  rcases hc with ⟨hc, rfl⟩ | ⟨hc, rfl⟩
  · rw [hc, if_pos rfl]
    exact go 6
  · rw [hc, if_neg (by decide), if_pos rfl]
    exact go 7
theorem rw_close {T : List UInt8} {h a a' g : Nat} {kk : Int} {I : List (Tr (h + 1))} {r : List UInt8} (hd : T.drop a' = 41 :: r) : (rdM T (g + 2) h).rw a kk I a' = .inr (a, a' + 1, seqT kk I [], a' + 1) := by
  have hp : pieceP T.length a' (T.drop a') = tkP a' 1 4 := by rw [hd]; exact pieceC _ _ _
  have e2 : (rdM T (g + 1) h).nx 0 a' = tkP a' 1 4 := by
    rw [← hp]
    exact nx_first (by rw [hp]; show (4 : Nat) ≠ 1; decide) (by rw [hp]; show (4 : Nat) ≠ 2; decide)
  show rwS (rdM T (g + 1) h) a kk I a' = _
  unfold rwS
  rw [e2, if_pos (show (tkP a' 1 4).k = 4 from rfl)]
  rfl
theorem rd_zero {T : List UInt8} {a m k : Nat} (hk : k = 3 ∨ k = 5) (hp : pieceP T.length a (T.drop a) = tkP a m k) : ∃ q, RdAll T 0 a (.inl q) 2 ∧ q.x = a ∧ q.er = 16 := by
  refine ⟨ftP a 16 (a + m), fun g hg => ?_, rfl, rfl⟩
  obtain ⟨g, rfl⟩ : ∃ g', g = g' + 1 := ⟨g - 1, by omega⟩
  have kk : (tkP a m k).k = k := rfl
  have e1 : (rdM T (g + 1) 0).nx 0 a = tkP a m k := by
    rw [← hp]
    exact nx_first (by rw [hp, kk]; omega) (by rw [hp, kk]; omega)
  rw [e1]
  show dtS T (rdM T g) 0 (tkP a m k) = _
  unfold dtS
  rw [if_neg (by omega), if_neg (by omega), if_neg (by omega), if_pos (by rw [kk]; exact hk)]
  rfl
theorem opn_row (op : List UInt8) (kk : Int) (h1 : (op = [40] ∧ kk = 6) ∨ (op = [35, 40] ∧ kk = 7)) : Opn op [41] 2 := by
  have hp : ∀ n a l, pieceP n a (op ++ l) = tkP a op.length 3 := fun n a l => by
    rcases h1 with ⟨rfl, -⟩ | ⟨rfl, -⟩
    · exact pieceO n a l
    · exact pieceV n a l
  have hc : ∀ (T l : List UInt8) (a : Nat), T.drop a = op ++ l → (cutL T a (a + op.length) = [40] ∧ kk = 6) ∨ (cutL T a (a + op.length) = [35, 40] ∧ kk = 7) := fun T l a e => by
    rw [cut_drop, e, List.take_left]
    exact h1
  refine ⟨fun l n a => .inl (by rw [hp]; rfl), fun T a l e => rd_zero (.inl rfl) (by rw [e]; exact hp _ _ _), fun T h a l q G e hl hG hin g hg => ?_, fun T h a l x y tr a' r G e hl hG hin hy hd => ⟨a' + 1, seqT kk [tr] [], fun g hg => ?_, rfl⟩⟩
  · obtain ⟨g, rfl⟩ : ∃ g', g = g' + 2 + 1 := ⟨g - 3, by omega⟩
    rw [rd_list (by rw [e]; exact hp _ _ _) (hc T l a e) (drop_more op e) hl, hin (g + 1) (by omega)]
  · obtain ⟨g, rfl⟩ : ∃ g', g = (g' + 1) + 2 + 1 := ⟨g - 4, by omega⟩
    rw [rd_list (by rw [e]; exact hp _ _ _) (hc T l a e) (drop_more op e) hl, hin (g + 1 + 1) (by omega)]
    exact rw_close hd
theorem opn_quote : Opn [39] [] 1 := by
  have hq : ∀ (T l : List UInt8) (h a g : Nat), T.drop a = [39] ++ l → (rdM T (g + 1) (h + 1)).dt ((rdM T (g + 1) (h + 1)).nx 0 a) = abM T (rdM T g h) (tkP a 1 5) := fun T l h a g e => by
    have hp : pieceP T.length a (T.drop a) = tkP a 1 5 := by rw [e]; exact pieceQ _ _ _
    have e1 : (rdM T (g + 1) (h + 1)).nx 0 a = tkP a 1 5 := by
      rw [← hp]
      exact nx_first (by rw [hp]; show (5 : Nat) ≠ 1; decide) (by rw [hp]; show (5 : Nat) ≠ 2; decide)
    rw [e1]
    show dtS T (rdM T g) (h + 1) (tkP a 1 5) = _
    unfold dtS
    have k3 : (tkP a 1 5).k = 5 := rfl
    rw [if_neg (by omega), if_neg (by omega), if_neg (by omega), if_pos (.inr k3)]
    show nestM T (rdM T g h) (tkP a 1 5) = _
    unfold nestM
    have hx : cutL T (tkP a 1 5).x (tkP a 1 5).y = [39] := by
      show cutL T a (a + 1) = _
      rw [cut_drop, e]
      rfl
    rw [hx, if_neg (by decide), if_neg (by decide)]
  refine ⟨fun l n a => .inr (.inl (by rw [show [39] ++ l = 39 :: l from rfl, pieceQ]; rfl)), fun T a l e => rd_zero (m := 1) (.inr rfl) (by rw [e]; exact pieceQ _ _ _), fun T h a l q G e hl hG hin g hg => ?_, fun T h a l x y tr a' r G e hl hG hin hy hd => ⟨y, seqT 6 [lfT h ⟨5, 0, false, [], longN (cutL T a (a + 1))⟩, tr] [], fun g hg => ?_, hy⟩⟩
  · obtain ⟨g, rfl⟩ : ∃ g', g = g' + 1 := ⟨g - 1, by omega⟩
    rw [hq T l h a g e]
    unfold abM
    have := hin g (by omega)
    have h2 : (rdM T g h).dt ((rdM T g h).nx 0 (tkP a 1 5).a) = .inl q := this
    rw [h2]
  · obtain ⟨g, rfl⟩ : ∃ g', g = g' + 1 := ⟨g - 1, by omega⟩
    rw [hq T l h a g e]
    unfold abM
    have := hin g (by omega)
    have h2 : (rdM T g h).dt ((rdM T g h).nx 0 (tkP a 1 5).a) = .inr (x, y, tr, a') := this
    rw [h2]
    rfl
theorem rd_sym {T : List UInt8} {h a g : Nat} {c : UInt8} {l : List UInt8} (hc : c = 120 ∨ c = 97) (e : T.drop a = c :: l) (hl : l = [] ∨ ∃ d l', l = d :: l' ∧ ¬ dlx d < 0) :
    (rdM T (g + 1) h).nx 0 a = tkP a 1 9 ∧ ∃ tr, (rdM T (g + 1) h).dt (tkP a 1 9) = .inr (a, a + 1, tr, a + 1) := by
  have hp : pieceP T.length a (T.drop a) = tkP a 1 9 := by rw [e]; exact pieceX _ _ c hc l hl
  refine ⟨?_, ?_⟩
  · rw [← hp]
    exact nx_first (by rw [hp]; show (9 : Nat) ≠ 1; decide) (by rw [hp]; show (9 : Nat) ≠ 2; decide)
  · show ∃ tr, dtS T (rdM T g) h (tkP a 1 9) = .inr (a, a + 1, tr, a + 1)
    unfold dtS
    have k9 : (tkP a 1 9).k = 9 := rfl
    rw [if_neg (by omega), if_neg (by omega), if_neg (by omega), if_neg (by omega), if_neg (by omega), if_neg (by omega), if_pos k9]
    unfold atomR
    have hx : cutL T (tkP a 1 9).x (tkP a 1 9).y = [c] := by
      show cutL T a (a + 1) = _
      rw [cut_drop, e]
      rfl
    rw [hx]
    have ha : ∃ v, atomM [c] = some v := by rcases hc with rfl | rfl <;> exact ⟨_, rfl⟩
    obtain ⟨v, hv⟩ := ha
    rw [hv]
    exact ⟨_, rfl⟩
theorem opn_a : Opn [40, 97, 32] [41] 3 := by
  have hp : ∀ n a l, pieceP n a ([40, 97, 32] ++ l) = tkP a 1 3 := fun n a l => pieceO n a _
  have key : ∀ (T l : List UInt8) (h a g : Nat), T.drop a = [40, 97, 32] ++ l → Inn l → ∃ s, (rdM T (g + 5) (h + 1)).dt ((rdM T (g + 5) (h + 1)).nx 0 a) = (match (rdM T (g + 2) h).dt ((rdM T (g + 2) h).nx 0 (a + 3)) with | .inl q => .inl q | .inr (_, _, tr, a') => (rdM T (g + 2) h).rw a 6 [s, tr] a') := fun T l h a g e hl => by
    have e1 : T.drop (a + 1) = 97 :: (32 :: l) := drop_more [40] e
    have e2 : T.drop (a + 2) = 32 :: l := drop_more [40, 97] e
    have e3 : T.drop (a + 3) = l := drop_more [40, 97, 32] e
    obtain ⟨s1, tr, s2⟩ := rd_sym (T := T) (h := h) (g := g + 2) (.inr rfl) e1 (.inr ⟨32, l, rfl, by decide⟩)
    refine ⟨tr, ?_⟩
    have hk := hl T.length (a + 3)
    rw [← e3] at hk
    have hn : ∀ g, (rdM T (g + 1) h).nx 0 (a + 3) = pieceP T.length (a + 3) (T.drop (a + 3)) := fun g => nx_first (by omega) (by omega)
    have e0 := rd_list (T := T) (h := h) (a := a) (m := 1) (kk := 6) (g := g + 2) (by rw [e]; exact hp _ _ _) (.inl ⟨by rw [cut_drop, e]; rfl, rfl⟩) e1 (fun n b => .inr (.inr (by rw [pieceX n b 97 (.inr rfl) (32 :: l) (.inr ⟨32, l, rfl, by decide⟩)]; rfl)))
    rw [s1, s2] at e0
    refine e0.trans ?_
    show rwS (rdM T (g + 2) h) a 6 [tr] (a + 2) = _
    have hb : pieceP T.length (a + 2) (T.drop (a + 2)) = tkP (a + 2) 1 1 := by rw [e2]; exact pieceB _ _ _
    have e4 : (rdM T (g + 2) h).nx 0 (a + 2) = (rdM T (g + 2) h).nx 0 (a + 3) := by
      rw [hn (g + 1)]
      show nxS T (rdM T (g + 1) h) 0 (a + 2) = _
      unfold nxS
      rw [hb, if_pos (show (tkP (a + 2) 1 1).k = 1 from rfl)]
      exact hn g
    unfold rwS
    rw [e4, if_neg (by rw [hn (g + 1)]; omega), if_neg (by rw [hn (g + 1)]; omega)]
    rfl
  refine ⟨fun l n a => .inl (by rw [hp]; rfl), fun T a l e => rd_zero (.inl rfl) (by rw [e]; exact hp _ _ _), fun T h a l q G e hl hG hin g hg => ?_, fun T h a l x y tr a' r G e hl hG hin hy hd => ?_⟩
  · obtain ⟨g, rfl⟩ : ∃ g', g = g' + 5 := ⟨g - 5, by omega⟩
    obtain ⟨s, hs⟩ := key T l h a g e hl
    have := hin (g + 2) (by omega)
    have h2 : (rdM T (g + 2) h).dt ((rdM T (g + 2) h).nx 0 (a + 3)) = .inl q := this
    rw [hs, h2]
  · have h1 : ∀ g, G + 3 ≤ g → ∃ s, (rdM T g (h + 1)).dt ((rdM T g (h + 1)).nx 0 a) = .inr (a, a' + 1, seqT 6 [s, tr] [], a' + 1) := fun g hg => by
      obtain ⟨g, rfl⟩ : ∃ g', g = g' + 5 := ⟨g - 5, by omega⟩
      obtain ⟨s, hs⟩ := key T l h a g e hl
      have := hin (g + 2) (by omega)
      have h2 : (rdM T (g + 2) h).dt ((rdM T (g + 2) h).nx 0 (a + 3)) = .inr (x, y, tr, a') := this
      rw [h2] at hs
      exact ⟨s, hs.trans (rw_close hd)⟩
    obtain ⟨s, hs⟩ := h1 (G + 3) (Nat.le_refl _)
    refine ⟨a' + 1, seqT 6 [s, tr] [], fun g hg => ?_, rfl⟩
    rcases Nat.lt_or_ge T.length a with ha | ha
    · have : T.drop a = [] := List.drop_eq_nil_of_le (by omega)
      rw [this] at e
      cases e
    · exact (nd_mono hg ha hs).2

/-- A thing again and again. -/
def rep (j : Nat) (op : List UInt8) : List UInt8 := (List.replicate j op).flatten
theorem rep_succ (j : Nat) (op : List UInt8) : rep (j + 1) op = op ++ rep j op := by
  unfold rep
  rw [List.replicate_succ, List.flatten_cons]
theorem rep_snoc (j : Nat) (op : List UInt8) : rep (j + 1) op = rep j op ++ op := by
  induction j with
  | zero => simp [rep]
  | succ j ih =>
    have h1 : rep (j + 1 + 1) op = op ++ rep (j + 1) op := rep_succ (j + 1) op
    have h2 : rep (j + 1) op = op ++ rep j op := rep_succ j op
    rw [h1, ih, ← List.append_assoc, ← h2, ih]
theorem rep_len (j : Nat) (op : List UInt8) : (rep j op).length = op.length * j := by
  induction j with
  | zero => simp [rep]
  | succ j ih => rw [rep_succ, List.length_append, ih, Nat.mul_succ]; omega
theorem inn_x (l : List UInt8) (hl : l = [] ∨ ∃ l', l = 41 :: l') : Inn (120 :: l) := fun n a => .inr (.inr (by
  rw [pieceX n a 120 (.inl rfl) l (hl.imp id fun ⟨l', e⟩ => ⟨41, l', e, by decide⟩)]; rfl))
theorem deep_ok {op cl : List UInt8} {s : Nat} (O : Opn op cl s) (hcl : cl = [] ∨ cl = [41]) (T : List UInt8) : ∀ (j h a : Nat) (r : List UInt8), j ≤ h → (r = [] ∨ ∃ r', r = 41 :: r') → T.drop a = rep j op ++ 120 :: (rep j cl ++ r) → ∃ x y tr a', RdAll T h a (.inr (x, y, tr, a')) (s * j + 2) ∧ y = a' ∧ T.drop a' = r
  | 0, h, a, r, _, hr, e => by
    have e : T.drop a = 120 :: r := e
    have hl : r = [] ∨ ∃ d l', r = d :: l' ∧ ¬ dlx d < 0 := hr.imp id fun ⟨l', e⟩ => ⟨41, l', e, by decide⟩
    obtain ⟨-, tr, h2⟩ := rd_sym (T := T) (h := h) (g := 0) (.inl rfl) e hl
    refine ⟨a, a + 1, tr, a + 1, fun g hg => ?_, rfl, drop_more [120] e⟩
    have ha : a ≤ T.length := by
      rcases Nat.lt_or_ge T.length a with ha | ha
      · have : T.drop a = [] := List.drop_eq_nil_of_le (by omega)
        rw [this] at e
        cases e
      · exact ha
    obtain ⟨h1, -⟩ := rd_sym (T := T) (h := h) (g := 0) (.inl rfl) e hl
    exact (nd_mono (f := 0 + 1) (by omega) ha (by rw [h1]; exact h2)).2
  | j + 1, 0, a, r, hj, _, _ => by omega
  | j + 1, h + 1, a, r, hj, hr, e => by
    rw [rep_succ j op, List.append_assoc, rep_snoc j cl, List.append_assoc] at e
    have hr' : cl ++ r = [] ∨ ∃ r', cl ++ r = 41 :: r' := by
      rcases hcl with rfl | rfl
      · exact hr
      · exact .inr ⟨r, rfl⟩
    obtain ⟨x, y, tr, a', h1, h2, h3⟩ := deep_ok O hcl T j h (a + op.length) (cl ++ r) (by omega) hr' (drop_more op e)
    have hin : Inn (rep j op ++ 120 :: (rep j cl ++ (cl ++ r))) := by
      cases j with
      | zero => exact inn_x _ hr'
      | succ j => rw [rep_succ, List.append_assoc]; exact O.inn _
    obtain ⟨y', tr', h4, h5⟩ := O.ok T h a _ x y tr a' r (s * j + 2) e hin (by omega) h1 h2 h3
    exact ⟨a, y', tr', a' + cl.length, fun g hg => h4 g (by rw [Nat.mul_succ] at hg; omega), h5, drop_more cl h3⟩
theorem deep_bad {op cl : List UInt8} {s : Nat} (O : Opn op cl s) (T : List UInt8) : ∀ (h j a : Nat) (R : List UInt8), h < j → T.drop a = rep j op ++ R → ∃ q, RdAll T h a (.inl q) (s * h + 2) ∧ q.x = a + op.length * h ∧ q.er = 16
  | h, 0, a, R, hj, _ => by omega
  | 0, j + 1, a, R, _, e => by
    rw [rep_succ, List.append_assoc] at e
    obtain ⟨q, h1, h2, h3⟩ := O.zero T a _ e
    exact ⟨q, h1, by simpa using h2, h3⟩
  | h + 1, 1, a, R, hj, e => by omega
  | h + 1, j + 1 + 1, a, R, hj, e => by
    rw [rep_succ, List.append_assoc] at e
    obtain ⟨q, h1, h2, h3⟩ := deep_bad O T h (j + 1) (a + op.length) R (by omega) (drop_more op e)
    have hin : Inn (rep (j + 1) op ++ R) := by rw [rep_succ, List.append_assoc]; exact O.inn _
    exact ⟨q, fun g hg => O.bad T h a _ q (s * h + 2) e hin (by omega) h1 g (by rw [Nat.mul_succ] at hg; omega), by rw [h2, Nat.mul_succ]; omega, h3⟩

/-- All of such a text. -/
theorem deep_all_ok {op cl : List UInt8} {s : Nat} (O : Opn op cl s) (hcl : cl = [] ∨ cl = [41]) (k F g : Nat) (hk : k ≤ 100) (hF : s * k + 2 ≤ F) (hF' : 1 ≤ F) : ∃ tr, allR (rdM (rep k op ++ 120 :: rep k cl) F 100) (g + 2) 0 [] = .inr [tr] := by
  obtain ⟨x, y, tr, a', h1, h2, h3⟩ := deep_ok O hcl (rep k op ++ 120 :: rep k cl) k 100 0 [] hk (.inl rfl) (by simp)
  have h4 := h1 F hF
  have hn : ((rdM (rep k op ++ 120 :: rep k cl) F 100).nx 0 a').k = 0 := by
    obtain ⟨F, rfl⟩ : ∃ F', F = F' + 1 := ⟨F - 1, by omega⟩
    have hp : pieceP (rep k op ++ 120 :: rep k cl).length a' ((rep k op ++ 120 :: rep k cl).drop a') = tkP a' 0 0 := by rw [h3]; rfl
    rw [nx_first (by rw [hp]; show (0 : Nat) ≠ 1; decide) (by rw [hp]; show (0 : Nat) ≠ 2; decide), hp]
    rfl
  exact ⟨tr, allR_cons (dt_good h4).1 h4 (allR_nil g hn)⟩
theorem deep_all_bad {op cl : List UInt8} {s : Nat} (O : Opn op cl s) (k F g : Nat) (R : List UInt8) (hk : 100 < k) (hF : s * 100 + 2 ≤ F) : ∃ q, allR (rdM (rep k op ++ R) F 100) (g + 1) 0 [] = .inl q ∧ q.x = op.length * 100 ∧ q.er = 16 := by
  obtain ⟨q, h1, h2, h3⟩ := deep_bad O (rep k op ++ R) 100 k 0 R hk (by simp)
  have h4 := h1 F hF
  refine ⟨q, ?_, by omega, h3⟩
  unfold allR
  have hk0 : ((rdM (rep k op ++ R) F 100).nx 0 0).k ≠ 0 := by
    obtain ⟨F, rfl⟩ : ∃ F', F = F' + 1 := ⟨F - 1, by omega⟩
    obtain ⟨j, rfl⟩ : ∃ j, k = j + 1 := ⟨k - 1, by omega⟩
    have hk := O.inn (rep j op ++ R) (rep (j + 1) op ++ R).length 0
    rw [← List.append_assoc, ← rep_succ] at hk
    have hd : (rep (j + 1) op ++ R).drop 0 = rep (j + 1) op ++ R := rfl
    rw [nx_first (by rw [hd]; omega) (by rw [hd]; omega), hd]
    omega
  rw [if_neg hk0, h4]

/-- What may stand between two texts, behind a line's end. -/
def gapB : Nat → List UInt8
  | 0 => [32]
  | 1 => [59, 32, 119, 111, 114, 100, 115, 10]
  | 2 => [35, 124, 32, 97, 32, 35, 124, 32, 98, 32, 124, 35, 32, 124, 35]
  | 3 => [35, 59, 40, 120, 32, 34, 121, 34, 41, 32]
  | _ => [9, 13, 10]
theorem nx_blank {T : List UInt8} {g h ps a L : Nat} (hp : pieceP T.length a (T.drop a) = tkP a L 1) : (rdM T (g + 1) h).nx ps a = (rdM T g h).nx ps (a + L) := by
  show nxS T (rdM T g h) ps a = _
  unfold nxS
  rw [hp, if_pos (show (tkP a L 1).k = 1 from rfl)]
  rfl
theorem pieceW (n a : Nat) (c : UInt8) (hc : c = 32 ∨ c = 9 ∨ c = 10 ∨ c = 13) (l : List UInt8) : pieceP n a (c :: l) = tkP a 1 1 := by
  unfold pieceP
  simp only []
  rw [if_pos hc]
theorem skip1 {T : List UInt8} {g h ps a : Nat} {c : UInt8} {l : List UInt8} (hd : T.drop a = c :: l) (hc : c = 32 ∨ c = 9 ∨ c = 10 ∨ c = 13) : (rdM T (g + 1) h).nx ps a = (rdM T g h).nx ps (a + 1) :=
  nx_blank (by rw [hd]; exact pieceW _ _ c hc l)
theorem quo_y {T : List UInt8} {x a : Nat} {l : List UInt8} (hd : T.drop a = 121 :: 34 :: l) : quoP T x (T.length + 1) a [] = ⟨x, a + 1 + 1, 10, 4, 0, ⟨#[121]⟩, 0, a + 1 + 1⟩ := by
  have hd2 : T.drop (a + 1) = 34 :: l := drop_more [121] hd
  have hn : 1 ≤ T.length := by
    have := congrArg List.length hd
    rw [List.length_drop] at this
    simp at this
    omega
  obtain ⟨n, hn⟩ : ∃ n, T.length = n + 1 := ⟨T.length - 1, by omega⟩
  rw [hn]
  unfold quoP
  rw [hd]
  simp only []
  rw [if_neg (by decide), if_neg (by decide)]
  unfold quoP
  rw [hd2]
  simp
theorem rd_xy {T : List UInt8} {h a : Nat} {r : List UInt8} (hd : T.drop a = [40, 120, 32, 34, 121, 34, 41] ++ r) : ∃ tr, ∀ g, 8 ≤ g → (rdM T g (h + 1)).dt (tkP a 1 3) = .inr (a, a + 7, tr, a + 7) := by
  have e1 : T.drop (a + 1) = 120 :: (32 :: 34 :: 121 :: 34 :: 41 :: r) := drop_more [40] hd
  have e2 : T.drop (a + 2) = 32 :: (34 :: 121 :: 34 :: 41 :: r) := drop_more [40, 120] hd
  have e3 : T.drop (a + 3) = 34 :: 121 :: 34 :: 41 :: r := drop_more [40, 120, 32] hd
  have e4 : T.drop (a + 4) = 121 :: 34 :: (41 :: r) := drop_more [40, 120, 32, 34] hd
  have e6 : T.drop (a + 6) = 41 :: r := drop_more [40, 120, 32, 34, 121, 34] hd
  have hl : (32 :: 34 :: 121 :: 34 :: 41 :: r : List UInt8) = [] ∨ ∃ d l', (32 :: 34 :: 121 :: 34 :: 41 :: r : List UInt8) = d :: l' ∧ ¬ dlx d < 0 := .inr ⟨32, _, rfl, by decide⟩
  have hin : Inn (120 :: (32 :: 34 :: 121 :: 34 :: 41 :: r)) := fun n b => .inr (.inr (by rw [pieceX n b 120 (.inl rfl) _ hl]; rfl))
  have hp : pieceP T.length a (T.drop a) = tkP a 1 3 := by rw [hd]; exact pieceO _ _ _
  have hq : pieceP T.length (a + 3) (T.drop (a + 3)) = tkP (a + 3) 1 6 := by
    rw [e3]
    unfold pieceP
    simp
  have key : ∀ g, ∃ tr, (rdM T (g + 8) (h + 1)).dt (tkP a 1 3) = .inr (a, a + 7, tr, a + 7) := fun g => by
    have e0 := rd_list (T := T) (h := h) (a := a) (m := 1) (kk := 6) (g := g + 5) hp (.inl ⟨by rw [cut_drop, hd]; rfl, rfl⟩) e1 hin
    have en : (rdM T (g + 5 + 2 + 1) (h + 1)).nx 0 a = tkP a 1 3 := by
      rw [← hp]
      exact nx_first (by rw [hp]; show (3 : Nat) ≠ 1; decide) (by rw [hp]; show (3 : Nat) ≠ 2; decide)
    rw [en] at e0
    obtain ⟨s1, tr, s2⟩ := rd_sym (T := T) (h := h) (g := g + 5) (.inl rfl) e1 hl
    rw [s1, s2] at e0
    have n2 : (rdM T (g + 5) h).nx 0 (a + 2) = tkP (a + 3) 1 6 := by
      rw [skip1 e2 (.inl rfl), ← hq]
      exact nx_first (by rw [hq]; show (6 : Nat) ≠ 1; decide) (by rw [hq]; show (6 : Nat) ≠ 2; decide)
    have d2 : (rdM T (g + 5) h).dt (tkP (a + 3) 1 6) = .inr (a + 3, a + 6, lfT h ⟨4, 0, false, [], ⟨#[121]⟩⟩, a + 6) := by
      show dtS T (rdM T (g + 4)) h (tkP (a + 3) 1 6) = _
      unfold dtS
      have k6 : (tkP (a + 3) 1 6).k = 6 := rfl
      rw [if_neg (by omega), if_neg (by omega), if_neg (by omega), if_neg (by omega), if_pos k6]
      have hq2 : quoP T (tkP (a + 3) 1 6).x (T.length + 1) (tkP (a + 3) 1 6).a [] = ⟨a + 3, a + 4 + 1 + 1, 10, 4, 0, ⟨#[121]⟩, 0, a + 4 + 1 + 1⟩ := quo_y e4
      rw [hq2]
      rfl
    have e7 : (rdM T (g + 6) h).rw a 6 [tr] (a + 2) = (rdM T (g + 5) h).rw a 6 [tr, lfT h ⟨4, 0, false, [], ⟨#[121]⟩⟩] (a + 6) := by
      show rwS (rdM T (g + 5) h) a 6 [tr] (a + 2) = _
      unfold rwS
      have k6 : (tkP (a + 3) 1 6).k = 6 := rfl
      rw [n2, if_neg (by omega), if_neg (by omega), d2]
      rfl
    refine ⟨seqT 6 [tr, lfT h ⟨4, 0, false, [], ⟨#[121]⟩⟩] [], ?_⟩
    refine e0.trans ?_
    exact e7.trans (rw_close e6)
  obtain ⟨tr, htr⟩ := key 0
  refine ⟨tr, fun g hg => ?_⟩
  have ha : a + 1 ≤ T.length := by
    have := congrArg List.length hd
    rw [List.length_drop] at this
    simp at this
    omega
  have := (mono_sim T (h + 1) hg).dt (tkP a 1 3) a (a + 7) tr (a + 7) (.inr ⟨a, 1, 3, rfl, ha, by decide, fun e => by omega, fun _ => by decide, fun e => by omega⟩) (show (3 : Nat) ≠ 1 by decide) (show (3 : Nat) ≠ 2 by decide) htr
  simp only [List.length_nil, Nat.zero_add, shf_zero] at this
  exact this

theorem gap_skip (k : Nat) (T rest : List UInt8) (b h F : Nat) (hd : T.drop b = 10 :: (gapB k ++ rest)) (h11 : ((rdM T F (h + 1)).nx 0 (b + 1 + (gapB k).length)).k ≠ 11) (G : Nat) (hG : F + 12 ≤ G) :
    (rdM T G (h + 1)).nx 0 b = (rdM T F (h + 1)).nx 0 (b + 1 + (gapB k).length) := by
  have hlen : b + 1 + (gapB k).length ≤ T.length := by
    have := congrArg List.length hd
    rw [List.length_drop] at this
    simp at this
    omega
  have s1 := fun g => skip1 (T := T) (g := g) (h := h + 1) (ps := 0) hd (.inr (.inr (.inl rfl)))
  have hd1 : T.drop (b + 1) = gapB k ++ rest := drop_more [10] hd
  obtain ⟨G, rfl⟩ : ∃ G', G = G' + 12 := ⟨G - 12, by omega⟩
  have fin : ∀ g, F ≤ g → (rdM T g (h + 1)).nx 0 (b + 1 + (gapB k).length) = (rdM T F (h + 1)).nx 0 (b + 1 + (gapB k).length) := fun g hg => nx_mono hg hlen h11
  rw [s1]
  match k, hd1, fin with
  | 0, hd1, fin =>
    rw [skip1 (c := 32) (l := rest) hd1 (.inl rfl)]
    exact fin _ (by omega)
  | 1, hd1, fin =>
    have hd2 : T.drop (b + 1 + 7) = 10 :: rest := drop_more [59, 32, 119, 111, 114, 100, 115] hd1
    have hp : pieceP T.length (b + 1) (T.drop (b + 1)) = tkP (b + 1) 7 1 := by
      rw [hd1]
      show pieceP T.length (b + 1) (59 :: 32 :: 119 :: 111 :: 114 :: 100 :: 115 :: 10 :: rest) = _
      have hl : lineL (59 :: 32 :: 119 :: 111 :: 114 :: 100 :: 115 :: 10 :: rest) = 7 := by simp [lineL_cons]
      unfold pieceP
      simp [hl]
    rw [nx_blank hp, skip1 hd2 (.inr (.inr (.inl rfl)))]
    exact fin _ (by omega)
  | 2, hd1, fin =>
    have hp : pieceP T.length (b + 1) (T.drop (b + 1)) = tkP (b + 1) 15 1 := by
      rw [hd1]
      show pieceP T.length (b + 1) (35 :: 124 :: 32 :: 97 :: 32 :: 35 :: 124 :: 32 :: 98 :: 32 :: 124 :: 35 :: 32 :: 124 :: 35 :: rest) = _
      have hl : comM (35 :: 124 :: 32 :: 97 :: 32 :: 35 :: 124 :: 32 :: 98 :: 32 :: 124 :: 35 :: 32 :: 124 :: 35 :: rest) 0 = some 15 := by simp [comM]
      unfold pieceP
      simp [shP, Lib.hasPrefix, List.isPrefixOf, hl]
    rw [nx_blank hp]
    exact fin _ (by omega)
  | 3, hd1, fin =>
    have hd2 : T.drop (b + 1 + 2) = [40, 120, 32, 34, 121, 34, 41] ++ (32 :: rest) := drop_more [35, 59] hd1
    have hd3 : T.drop (b + 1 + 2 + 7) = 32 :: rest := drop_more [40, 120, 32, 34, 121, 34, 41] hd2
    have hp : pieceP T.length (b + 1) (T.drop (b + 1)) = tkP (b + 1) 2 2 := by
      rw [hd1]
      show pieceP T.length (b + 1) (35 :: 59 :: _) = _
      unfold pieceP
      simp [shP, Lib.hasPrefix, List.isPrefixOf]
    have hp2 : pieceP T.length (b + 1 + 2) (T.drop (b + 1 + 2)) = tkP (b + 1 + 2) 1 3 := by rw [hd2]; exact pieceO _ _ _
    obtain ⟨tr, htr⟩ := rd_xy (h := h) hd2
    have n1 : (rdM T (G + 11) (h + 1)).nx 0 (b + 1) = (rdM T (G + 10) (h + 1)).nx 1 (b + 1 + 2) := by
      show nxS T (rdM T (G + 10) (h + 1)) 0 (b + 1) = _
      unfold nxS
      have k2 : (tkP (b + 1) 2 2).k = 2 := rfl
      rw [hp, if_neg (by omega), if_pos k2]
      rfl
    have n2 : (rdM T (G + 10) (h + 1)).nx 1 (b + 1 + 2) = (rdM T (G + 9) (h + 1)).nx 0 (b + 1 + 2 + 7) := by
      show nxS T (rdM T (G + 9) (h + 1)) 1 (b + 1 + 2) = _
      unfold nxS
      have k3 : (tkP (b + 1 + 2) 1 3).k = 3 := rfl
      rw [hp2, if_neg (by omega), if_neg (by omega), if_pos (by decide), htr (G + 9) (by omega)]
    rw [n1, n2, skip1 hd3 (.inl rfl)]
    exact fin _ (by omega)
  | k + 4, hd1, fin =>
    have hd1 : T.drop (b + 1) = 9 :: 13 :: 10 :: rest := hd1
    have hd2 : T.drop (b + 1 + 1) = 13 :: 10 :: rest := drop_more [9] hd1
    have hd3 : T.drop (b + 1 + 1 + 1) = 10 :: rest := drop_more [13] hd2
    rw [skip1 hd1 (.inr (.inl rfl)), skip1 hd2 (.inr (.inr (.inr rfl))), skip1 hd3 (.inr (.inr (.inl rfl)))]
    exact fin _ (by omega)

/-- Texts with what stands between them. -/
def cats {h : Nat} : List (List UInt8 × Nat × List (Tr (h + 1))) → List UInt8
  | [] => []
  | x :: L => x.1 ++ (10 :: (gapB x.2.1 ++ cats L))
theorem cats_snoc {h : Nat} (x : List UInt8 × Nat × List (Tr (h + 1))) : ∀ L, cats (L ++ [x]) = cats L ++ (x.1 ++ (10 :: gapB x.2.1))
  | [] => by simp [cats]
  | y :: L => by
    rw [List.cons_append]
    unfold cats
    rw [cats_snoc x L]
    simp
theorem cats_all {h : Nat} : ∀ (L : List (List UInt8 × Nat × List (Tr (h + 1 + 1)))), (∀ x ∈ L, ∃ f g, allR (rdM x.1 f (h + 1)) g 0 [] = .inr x.2.2) → ∃ f g, allR (rdM (cats L) f (h + 1)) g 0 [] = .inr (L.flatMap fun x => x.2.2)
  | [], _ => ⟨1, 1, allR_nil 0 (by
      show (nxS [] (rdM [] 0 (h + 1)) 0 0).k = 0
      rfl)⟩
  | (T1, k, J1) :: L, hL => by
    obtain ⟨f2, g2, e⟩ := cats_all L fun x hx => hL x (by simp [hx])
    obtain ⟨f1, g1, e1⟩ := hL (T1, k, J1) (by simp)
    have e1 : allR (rdM T1 f1 (h + 1)) g1 0 [] = .inr J1 := e1
    generalize hS : cats L = S at *
    have eq : T1 ++ (10 :: (gapB k ++ S)) = (T1 ++ 10 :: gapB k) ++ S := by simp
    have e2 := all_shift (P := T1 ++ 10 :: gapB k) (T := S) (Nat.le_refl f2) (Nat.zero_le _) e
    have hl : (T1 ++ 10 :: gapB k).length = T1.length + 1 + (gapB k).length := by simp; omega
    have e2 : allR (rdM (T1 ++ (10 :: (gapB k ++ S))) f2 (h + 1)) g2 (T1.length + 1 + (gapB k).length) [] = .inr (L.flatMap fun x => x.2.2) := by
      rw [← hl, eq]
      exact e2
    have hle : T1.length + 1 + (gapB k).length ≤ (T1 ++ (10 :: (gapB k ++ S))).length := by simp; omega
    have hd : (T1 ++ (10 :: (gapB k ++ S))).drop T1.length = 10 :: (gapB k ++ S) := List.drop_left
    have e3 : allR (rdM (T1 ++ (10 :: (gapB k ++ S))) (f2 + 12) (h + 1)) g2 T1.length [] = .inr (L.flatMap fun x => x.2.2) := by
      refine allR_same ?_ (allR_mono (by omega) g2 g2 _ _ hle (Nat.le_refl _) e2)
      rw [gap_skip k _ S T1.length h f2 hd (allR_k e2) (f2 + 12) (Nat.le_refl _)]
      exact (nx_mono (by omega) hle (allR_k e2)).symm
    have e4 := all_comp (P := []) (T := T1) (X := 10 :: (gapB k ++ S)) (.inr ⟨_, rfl⟩) (f := f1) (F := f2 + 12) (g2 := g2) (h := h + 1) (K := L.flatMap fun x => x.2.2) (by simpa using e3) g1 0 (f2 + 12 + f1) J1 (Nat.zero_le _) (Nat.le_refl _) e1
    refine ⟨f2 + 12 + f1, g1 + g2, ?_⟩
    have e5 : cats ((T1, k, J1) :: L) = T1 ++ (10 :: (gapB k ++ S)) := by
      unfold cats
      rw [hS]
    rw [e5]
    simpa using e4

end Go.Proofs.YteipogfolnlblaaDoor
