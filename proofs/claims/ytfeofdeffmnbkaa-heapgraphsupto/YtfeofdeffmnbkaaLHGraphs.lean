/-
  What is proved here: HeapGraphs answers true for every number, every script and every list of numbers, and turns nothing that was there.
-/
import Derived.Test.YtfeofdeffmnbkaaHGrown2
import Derived.Deep.RegionHeld3
namespace Go.Proofs.Ytfeofdeffmnbkaa
open Go Go.RowKit

/-! Rows of pairs. -/
def pcell (A B : Nat → Nat) (i : Nat) : Value := .int .u64 (((if i % 2 = 0 then A (i / 2) else B (i / 2)) : Nat) : Int)
def cellsP (A B : Nat → Nat) (c : Nat) : List Value := (List.range (c * 2)).map (pcell A B)
theorem cellsP_length (A B : Nat → Nat) (c : Nat) : (cellsP A B c).length = c * 2 := by simp [cellsP]
theorem cellsP_get (A B : Nat → Nat) (c i : Nat) (h : i < c * 2) : (cellsP A B c)[i]? = some (pcell A B i) := by simp [cellsP, h]
theorem cellsP_push (A B : Nat → Nat) (c a b : Nat) : cellsP A B c ++ [.int .u64 (a : Int), .int .u64 (b : Int)] = cellsP (upd A c a) (upd B c b) (c + 1) := by
  apply List.ext_getElem?
  intro i
  by_cases h1 : i < c * 2
  · rw [List.getElem?_append_left (by rw [cellsP_length]; exact h1), cellsP_get _ _ _ _ h1, cellsP_get _ _ _ _ (by omega)]
    unfold pcell
    rw [upd_other (by omega), upd_other (by omega)]
  · by_cases h2 : i = c * 2
    · subst h2
      rw [List.getElem?_append_right (by rw [cellsP_length]; omega), cellsP_length, cellsP_get _ _ _ _ (by omega)]
      unfold pcell
      rw [if_pos (by omega), show c * 2 / 2 = c by omega, upd_same]
      simp
    · by_cases h3 : i = c * 2 + 1
      · subst h3
        rw [List.getElem?_append_right (by rw [cellsP_length]; omega), cellsP_length, cellsP_get _ _ _ _ (by omega)]
        unfold pcell
        rw [if_neg (by omega), show (c * 2 + 1) / 2 = c by omega, upd_same]
        simp
      · rw [List.getElem?_eq_none (by simp [cellsP]; omega), List.getElem?_eq_none (by simp [cellsP]; omega)]

def PRow (w : World) (base : Nat) (v : Value) (c : Nat) (A B : Nat → Nat) : Prop := w.ownsRow base 43 2 v c (cellsP A B c)
theorem PRow.shape {w : World} {base : Nat} {v : Value} {c : Nat} {A B : Nat → Nat} (h : PRow w base v c A B) : ∃ ao cap, v = .slice ao c cap := by
  rcases h.2 with ⟨rfl, rfl⟩ | ⟨g, cap, cur, rfl, _⟩
  · exact ⟨_, _, rfl⟩
  · exact ⟨_, _, rfl⟩
theorem PRow.ge {w : World} {base : Nat} {v : Value} {c : Nat} {A B : Nat → Nat} (h : PRow w base v c A B) {g : Nat} (hg : v.ownBlock = some g) : base ≤ g := by
  rcases h.2 with ⟨rfl, rfl⟩ | ⟨g', cap, cur, rfl, h1, _⟩
  · cases hg
  · have e : g' = g := by simpa [Value.ownBlock] using hg
    omega
theorem PRow.fr {S : Nat → Prop} {w w2 : World} {base : Nat} {v : Value} {c : Nat} {A B : Nat → Nat} (h : PRow w base v c A B) (hF : Fr S w w2) (hs : ∀ g, v.ownBlock = some g → ¬ S g) : PRow w2 base v c A B := by
  refine ⟨h.1, ?_⟩
  rcases h.2 with ⟨rfl, rfl⟩ | ⟨g, cap, cur, rfl, h1, h2, h3⟩
  · exact .inl ⟨rfl, rfl⟩
  · exact .inr ⟨g, cap, cur, rfl, h1, (hF.block g (Array.getElem?_eq_some_iff.1 h2).1 (hs g rfl)).trans h2, h3⟩
theorem PRow.last {w : World} {base : Nat} {v : Value} {c : Nat} {A B : Nat → Nat} (h : PRow w base v (c + 1) A B) : ∃ g cap, v = .slice (some ⟨g, 0, none⟩) (c + 1) cap ∧ c + 1 ≤ cap ∧ cap ≤ 9223372036854775807 ∧ w.cell? ⟨g, c * 2, none⟩ = some (.int .u64 (A c : Int)) ∧ w.cell? ⟨g, c * 2 + 1, none⟩ = some (.int .u64 (B c : Int)) ∧ PRow w base (.slice (some ⟨g, 0, none⟩) c cap) c A B := by
  rcases h.2 with ⟨_, e⟩ | ⟨g, cap, cur, rfl, h1, h2, h3, h4, h5, h6⟩
  · cases e
  · have hget : ∀ i, i < (c + 1) * 2 → cur[i]? = some (pcell A B i) := fun i hi => by
      rw [← cellsP_get A B (c + 1) i hi, ← h6, List.getElem?_take, if_pos hi]
      simp
    refine ⟨g, cap, rfl, h3, by unfold maxLen at h4; omega, ?_, ?_, by rw [cellsP_length], .inr ⟨g, cap, cur, rfl, h1, h2, by omega, h4, h5, ?_⟩⟩
    · rw [cell_of_row w g _ cur _ (0, 0) h2, hget _ (by omega)]
      unfold pcell
      rw [if_pos (by omega), show c * 2 / 2 = c by omega]
    · rw [cell_of_row w g _ cur _ (0, 0) h2, hget _ (by omega)]
      unfold pcell
      rw [if_neg (by omega), show (c * 2 + 1) / 2 = c by omega]
    · apply List.ext_getElem?
      intro i
      by_cases hi : i < c * 2
      · rw [List.getElem?_take, if_pos hi, cellsP_get _ _ _ _ hi]
        have := hget i (by omega)
        simpa using this
      · rw [List.getElem?_eq_none (by simp; omega), List.getElem?_eq_none (by simp [cellsP]; omega)]
theorem PRow.zero {w : World} {base : Nat} (h : base ≤ w.heap.size) (A B : Nat → Nat) : PRow (w.alloc (.cells #[] 43)) base (.slice (some ⟨w.heap.size, 0, none⟩) 0 0) 0 A B :=
  ⟨by rw [cellsP_length], .inr ⟨w.heap.size, 0, #[], rfl, h, heap_alloc_new w _, Nat.le_refl _, by unfold maxLen; omega, rfl, by simp [cellsP]⟩⟩
theorem PRow.push {w : World} {base : Nat} {v : Value} {c a b : Nat} {A B : Nat → Nat} (h : w.ownsRow base 43 2 v (c + 1) (cellsP A B c ++ [.int .u64 (a : Int), .int .u64 (b : Int)])) : PRow w base v (c + 1) (upd A c a) (upd B c b) := by
  unfold PRow
  rw [← cellsP_push]
  exact h
theorem PRow.pushF {w : World} {base : Nat} {v : Value} {c a b : Nat} {A B : Nat → Nat} (h : w.ownsRow base 43 2 v (c + 1) (cellsP A B c ++ [.int .u64 (a : Int), .int .u64 (b : Int)])) (ha : A c = a) (hb : B c = b) : PRow w base v (c + 1) A B := by
  have := PRow.push h
  rw [← ha, ← hb] at this
  have e : ∀ (g : Nat → Nat) k, upd g k (g k) = g := fun g k => by
    funext i
    by_cases e : i = k
    · rw [e, upd_same]
    · rw [upd_other e]
  rw [e, e] at this
  exact this
theorem PRow.congr {w : World} {base : Nat} {v : Value} {c : Nat} {A B A2 B2 : Nat → Nat} (h : PRow w base v c A B) (he : ∀ i, i < c → A i = A2 i ∧ B i = B2 i) : PRow w base v c A2 B2 := by
  have e : cellsP A B c = cellsP A2 B2 c := by
    unfold cellsP
    refine List.map_congr_left fun i hi => ?_
    have hi' : i < c * 2 := List.mem_range.1 hi
    unfold pcell
    rw [(he (i / 2) (by omega)).1, (he (i / 2) (by omega)).2]
  unfold PRow
  rw [← e]
  exact h
theorem sumL_none {f : Nat → Nat} : ∀ {k : Nat}, sumL f (fun _ => false) k = 0
  | 0 => rfl
  | k + 1 => by unfold sumL; simp [sumL_none (f := f) (k := k)]
def lenOf : Value → Nat
  | .slice _ n _ => n
  | _ => 0
theorem hcells_two (w : World) (a b : Value) (E : TypeId) : ∀ j u, [a, b][j]? = some u → (w.alloc (.cells #[a, b] E)).cell? ((⟨w.heap.size, 0, none⟩ : Addr).add j) = some u := by
  intro j u hj
  rw [Addr.add_lit, cell_of_row _ _ _ _ _ _ (heap_alloc_new w _), Nat.zero_add]
  simpa using hj

/-! The graph. -/
/-- A word and what it has become. -/
def Pr (st : Nat → Bool) (T : MS) (a b : Nat) : Prop := (isPtr st a = true ∧ T.fw (a / 4) ≠ 0 ∧ b = 4 * T.fw (a / 4)) ∨ ((a % 4 ≠ 0 ∨ a = 0) ∧ b = a)
theorem pr_of {st : Nat → Bool} {T : MS} {x : Nat} (hs : Sure st T x) (hm : isPtr st x = true ∨ x % 4 ≠ 0 ∨ x = 0) : Pr st T x (mvF st T x) := by
  by_cases c : isPtr st x = true
  · exact .inl ⟨c, hs c, by unfold mvF; rw [if_pos c]⟩
  · refine .inr ⟨?_, by unfold mvF; rw [if_neg c]⟩
    rcases hm with h | h
    · exact absurd h c
    · exact h
theorem back_of {f : Nat → Nat} {st : Nat → Bool} {R : Nat → Prop} {T : MS} {F : Nat} (h : Gr f st R T F) : ∃ bk : Nat → Nat, ∀ p, T.fw p ≠ 0 → bk (T.fw p) = p := by
  classical
  refine ⟨fun q => if h : ∃ p, T.fw p ≠ 0 ∧ T.fw p = q then h.choose else 0, fun p hp => ?_⟩
  have hex : ∃ p', T.fw p' ≠ 0 ∧ T.fw p' = T.fw p := ⟨p, hp, rfl⟩
  show (if h : ∃ p', T.fw p' ≠ 0 ∧ T.fw p' = T.fw p then h.choose else 0) = p
  rw [dif_pos hex]
  exact h.inj _ _ hex.choose_spec.1 hex.choose_spec.2

def toF (T : MS) (mk : Nat → Bool) (p : Nat) : Nat := if mk p = true then 4 * T.fw p else 0
def fromF (T : MS) (bk : Nat → Nat) (mk : Nat → Bool) (q : Nat) : Nat := if T.st q = true ∧ mk (bk q) = true then 4 * bk q else 0
def mark (mk : Nat → Bool) (p : Nat) : Nat → Bool := fun q => mk q || q == p

/-- What stands between two turns: c pairs are left, those that are marked were met. -/
structure Wk (n : Nat) (f : Nat → Nat) (st : Nat → Bool) (T : MS) (r : Nat → Nat) (l : Nat) (c : Nat) (A B : Nat → Nat) (mk : Nat → Bool) (met : Nat) : Prop where
  pr : ∀ i, i < c → Pr st T (A i) (B i) ∧ A i < 18446744073709551616
  sub : ∀ p, mk p = true → T.fw p ≠ 0
  met : met = sumL f mk n
  cl : ∀ p, mk p = true → ∀ j, 1 ≤ j → j ≤ hTag (f p) → isPtr st (f (p + j)) = true → mk (f (p + j) / 4) = true ∨ ∃ i, i < c ∧ A i = f (p + j)
  rt : ∀ k, k < l → isPtr st (r k) = true → mk (r k / 4) = true ∨ ∃ i, i < c ∧ A i = r k

section
variable {n : Nat} {f : Nat → Nat} {st : Nat → Bool} {T : MS} {r : Nat → Nat} {l c : Nat} {A B : Nat → Nat} {mk : Nat → Bool} {met : Nat}

theorem sumL_sub {f : Nat → Nat} {b c : Nat → Bool} (h : ∀ p, b p = true → c p = true) : ∀ k, sumL f b k ≤ sumL f c k
  | 0 => Nat.le_refl _
  | k + 1 => by
    have ih := sumL_sub (f := f) h k
    unfold sumL
    cases hb : b k with
    | false =>
      cases hc : c k <;> simp <;> omega
    | true =>
      rw [h k hb]
      simp
      omega
theorem Wk.le (h : Wk n f st T r l c A B mk met) (hT : MSok n f st T) : met + 1 ≤ T.n := by
  have := sumL_sub (f := f) (b := mk) (c := fun p => T.fw p != 0) (fun p hp => by simpa using h.sub p hp) n
  rw [hT.sum, h.met]
  omega
/-- A pair that is left is put aside: its object is none, or was met. -/
theorem Wk.pop (h : Wk n f st T r l (c + 1) A B mk met) (hd : isPtr st (A c) = true → mk (A c / 4) = true) : Wk n f st T r l c A B mk met := by
  refine ⟨fun i hi => h.pr i (by omega), h.sub, h.met, fun p hp j h1 h2 hq => ?_, fun k hk hq => ?_⟩
  · rcases h.cl p hp j h1 h2 hq with e | ⟨i, hi, e⟩
    · exact .inl e
    · by_cases ei : i = c
      · rw [ei] at e; rw [← e] at hq ⊢; exact .inl (hd hq)
      · exact .inr ⟨i, by omega, e⟩
  · rcases h.rt k hk hq with e | ⟨i, hi, e⟩
    · exact .inl e
    · by_cases ei : i = c
      · rw [ei] at e; rw [← e] at hq ⊢; exact .inl (hd hq)
      · exact .inr ⟨i, by omega, e⟩
/-- The pair of an object that was not met: it is met, and its fields are left. -/
theorem Wk.meet (h : Wk n f st T r l (c + 1) A B mk met) (hg : Good n f st) (hT : MSok n f st T) (hG : Gr f st (fun _ => True) T T.n) (hF : Fine f st) (hfb : ∀ i, i < n → f i < 18446744073709551616) (_hp : isPtr st (A c) = true) (h0 : T.fw (A c / 4) ≠ 0) (hm : mk (A c / 4) = false) {A2 B2 : Nat → Nat}
    (hA : ∀ i, i < c → A2 i = A i ∧ B2 i = B i) (hA2 : ∀ j, 1 ≤ j → j ≤ hTag (f (A c / 4)) → A2 (c + j - 1) = f (A c / 4 + j) ∧ B2 (c + j - 1) = T.f (T.fw (A c / 4) + j)) :
    Wk n f st T r l (c + hTag (f (A c / 4))) A2 B2 (mark mk (A c / 4)) (met + hLen (f (A c / 4))) := by
  obtain ⟨p, hpE⟩ : ∃ p, p = A c / 4 := ⟨_, rfl⟩
  rw [← hpE] at h0 hm hA2 ⊢
  obtain ⟨w1, w2, w3, w4⟩ := hT.went p h0
  have hin := (hg.inn p w1).2
  have hinT := (hT.good.inn _ w3).2
  rw [w4] at hinT
  have hL : hLen (f p) = 1 + hTag (f p) + hRaw (f p) := rfl
  have hmk : ∀ q, mark mk p q = true ↔ mk q = true ∨ q = p := fun q => by simp [mark]
  refine ⟨fun i hi => ?_, fun q hq => ?_, ?_, fun q hq j h1 h2 hx => ?_, fun k hk hx => ?_⟩
  · by_cases e : i < c
    · rw [(hA i e).1, (hA i e).2]; exact h.pr i (by omega)
    · have hj := hA2 (i - c + 1) (by omega) (by omega)
      rw [show c + (i - c + 1) - 1 = i by omega] at hj
      rw [hj.1, hj.2]
      obtain ⟨n1, n2⟩ := hG.new p h0 (i - c + 1) (by omega) (by omega) (by omega)
      rw [n1]
      refine ⟨pr_of n2 ?_, hfb _ (by omega)⟩
      have := hF p w1 (i - c + 1) (by omega) (by omega)
      rw [may_ptr] at this
      rcases this with e | e | e
      · exact .inr (.inl (by omega))
      · exact .inr (.inl (by omega))
      · exact .inl e
  · rcases (hmk q).1 hq with e | e
    · exact h.sub q e
    · rw [e]; exact h0
  · rw [h.met, sumL_more (b := mk) (c := mark mk p) hm ((hmk p).2 (.inr rfl)) (fun q hq => by simp [mark, hq]) (by omega)]
  · by_cases eq : q = p
    · rw [eq] at h2 hx ⊢
      have hj := hA2 j h1 h2
      exact .inr ⟨c + j - 1, by omega, hj.1⟩
    · have hq' : mk q = true := by
        rcases (hmk q).1 hq with e | e
        · exact e
        · exact absurd e eq
      rcases h.cl q hq' j h1 h2 hx with e | ⟨i, hi, e⟩
      · exact .inl ((hmk _).2 (.inl e))
      · by_cases ei : i = c
        · rw [ei] at e
          exact .inl ((hmk _).2 (.inr (by rw [← e, hpE])))
        · exact .inr ⟨i, by omega, by rw [(hA i (by omega)).1]; exact e⟩
  · rcases h.rt k hk hx with e | ⟨i, hi, e⟩
    · exact .inl ((hmk _).2 (.inl e))
    · by_cases ei : i = c
      · rw [ei] at e
        exact .inl ((hmk _).2 (.inr (by rw [← e, hpE])))
      · exact .inr ⟨i, by omega, by rw [(hA i (by omega)).1]; exact e⟩
/-- Nothing is left: all that was moved was met. -/
theorem Wk.done (h : Wk n f st T r l 0 A B mk met) (hg : Good n f st) (hfb : ∀ i, i < n → f i < 18446744073709551616) (hn : n ≤ 1048576) (hT : MSok n f st T) (hTe : T = collS n f st r l) : met + 1 = T.n := by
  obtain ⟨-, c2, -⟩ := coll_gr (R := fun p => mk p = true) hg hfb hn (fun p hp _ j h1 h2 hx => by
    rcases h.cl p hp j h1 h2 hx with e | ⟨i, hi, _⟩
    · exact e
    · omega) r l (fun k hk hx => by
    rcases h.rt k hk hx with e | ⟨i, hi, _⟩
    · exact e
    · omega)
  rw [← hTe] at c2
  rw [hT.sum, h.met, Nat.add_comm]
  congr 1
  refine sumL_congr fun p _ => ?_
  cases hm : mk p with
  | true => have := h.sub p hm; simp [this]
  | false =>
    by_cases e : T.fw p = 0
    · simp [e]
    · have := c2.sub p e
      rw [hm] at this
      cases this
end

theorem toF_mark {T : MS} {mk : Nat → Bool} {p : Nat} (q : Nat) : toF T (mark mk p) q = upd (toF T mk) p (4 * T.fw p) q := by
  by_cases e : q = p
  · rw [e, upd_same]; simp [toF, mark]
  · rw [upd_other e]; simp [toF, mark, e]
theorem fromF_mark {n : Nat} {f : Nat → Nat} {st : Nat → Bool} {R : Nat → Prop} {T : MS} {F : Nat} {bk : Nat → Nat} {mk : Nat → Bool} {p : Nat} (hbk : ∀ p, T.fw p ≠ 0 → bk (T.fw p) = p) (hT : MSok n f st T) (hG : Gr f st R T F) (h0 : T.fw p ≠ 0) (q : Nat) : fromF T bk (mark mk p) q = upd (fromF T bk mk) (T.fw p) (4 * p) q := by
  by_cases e : q = T.fw p
  · rw [e, upd_same]
    unfold fromF
    rw [hbk p h0, (hT.went p h0).2.2.1]
    simp [mark]
  · rw [upd_other e]
    unfold fromF
    cases hs : T.st q with
    | false => simp
    | true =>
      obtain ⟨p', e1, e2⟩ := hG.org q hs
      have hb : bk q = p' := by rw [← e1]; exact hbk p' (by rw [e1]; exact e2)
      have hne : p' ≠ p := fun e3 => e (by rw [← e1, e3])
      rw [hb]
      simp [mark, hne]


/-- The roots of a collection, beside a heap. -/
theorem Own.hr {E : TypeId} {w : World} {base : Nat} {ao : Option Addr} {l cap : Nat} {r : Nat → Nat} {X : Nat → Prop} (h : Own .u64 E w base (.slice ao l cap) l r) (hX : ∀ g, X g → g < base) :
    (l = 0 ∨ ∃ b off, ao = some ⟨b, off, none⟩ ∧ b < w.heap.size ∧ ¬ X b ∧ ∀ k, k < l → w.cell? ⟨b, off + k, none⟩ = some (.int .u64 (r k))) ∧ l ≤ cap ∧ cap ≤ 9223372036854775807 := by
  rcases h with ⟨e, e2⟩ | ⟨g, cap', e, h1, h2, h3⟩
  · cases e
    exact ⟨.inl rfl, by omega, by omega⟩
  · cases e
    exact ⟨.inr ⟨g, 0, rfl, h3.lt, fun e => by have := hX g e; omega, fun k hk => by rw [Nat.zero_add]; exact h3.cell hk⟩, h3.le, h2⟩

theorem infoP : (Try.prog.info? 43).map (fun i => (i.zero, i.size, i.bytes)) = some (some (.agg #[.int .u64 0, .int .u64 0]), 2, 16) := by kernel_rfl
theorem Own.rowOf {k : IntKind} {E : TypeId} {w : World} {base : Nat} {v : Value} {n : Nat} {f : Nat → Nat} (h : Own k E w base v n f) (hn : 0 < n) : ∃ g cap, v = .slice (some ⟨g, 0, none⟩) n cap ∧ base ≤ g ∧ RowAt k E w g cap n f ∧ cap ≤ 9223372036854775807 := by
  rcases h with ⟨_, e⟩ | ⟨g, cap, e, h1, h2, h3⟩
  · omega
  · exact ⟨g, cap, e, h1, h3, h2⟩

structure Gs (w : World) (n : Nat) (f : Nat → Nat) (st : Nat → Bool) (T : MS) (bk r : Nat → Nat) (lr gw capA gn capN gT gF gB : Nat) (wr : World) (v : Value) (c : Nat) (A B : Nat → Nat) (mk : Nat → Bool) (met : Nat) : Prop where
  W : Wk n f st T r lr c A B mk met
  L : PRow wr gB v c A B
  to : RowAt .u64 33 wr gT (n + 1) (n + 1) (toF T mk)
  fr : RowAt .u64 33 wr gF (T.n + 1) (T.n + 1) (fromF T bk mk)
  was : RowAt .u64 33 wr gw capA n f
  now : RowAt .u64 33 wr gn capN T.n T.f
  F : Fr (fun k => w.heap.size ≤ k) w wr
  cb : c ≤ lr + met
  bB : gB ≤ wr.heap.size
theorem Gs.same {w : World} {n : Nat} {f : Nat → Nat} {st : Nat → Bool} {T : MS} {bk r : Nat → Nat} {lr gw capA gn capN gT gF gB : Nat} {wr w2 : World} {v : Value} {c : Nat} {A B : Nat → Nat} {mk : Nat → Bool} {met : Nat} (h : Gs w n f st T bk r lr gw capA gn capN gT gF gB wr v c A B mk met) (hF : Fr (fun _ => False) wr w2) : Gs w n f st T bk r lr gw capA gn capN gT gF gB w2 v c A B mk met :=
  ⟨h.W, h.L.fr hF (fun _ _ e => e), h.to.fr hF (fun e => e), h.fr.fr hF (fun e => e), h.was.fr hF (fun e => e), h.now.fr hF (fun e => e), h.F.on hF.some, h.cb, Nat.le_trans h.bB hF.size⟩
theorem Gs.popped {w : World} {n : Nat} {f : Nat → Nat} {st : Nat → Bool} {T : MS} {bk r : Nat → Nat} {lr gw capA gn capN gT gF gB : Nat} {wr w2 : World} {v v2 : Value} {c : Nat} {A B : Nat → Nat} {mk : Nat → Bool} {met : Nat} (h : Gs w n f st T bk r lr gw capA gn capN gT gF gB wr v (c + 1) A B mk met) (hL : PRow wr gB v2 c A B) (hd : isPtr st (A c) = true → mk (A c / 4) = true) (hF : Fr (fun _ => False) wr w2) : Gs w n f st T bk r lr gw capA gn capN gT gF gB w2 v2 c A B mk met :=
  Gs.same ⟨h.W.pop hd, hL, h.to, h.fr, h.was, h.now, h.F, by have := h.cb; omega, h.bB⟩ hF
/-- A variable of two cells is laid and set. -/
theorem twoSet (w : World) (E : TypeId) (z0 z1 a b : Value) : Fr (fun _ => False) w (((w.alloc (.cells #[z0, z1] E)).setCell ⟨w.heap.size, 0, none⟩ a).setCell ⟨w.heap.size, 1, none⟩ b) ∧ (((w.alloc (.cells #[z0, z1] E)).setCell ⟨w.heap.size, 0, none⟩ a).setCell ⟨w.heap.size, 1, none⟩ b).cell? ⟨w.heap.size, 0, none⟩ = some a ∧ (((w.alloc (.cells #[z0, z1] E)).setCell ⟨w.heap.size, 0, none⟩ a).setCell ⟨w.heap.size, 1, none⟩ b).cell? ⟨w.heap.size, 1, none⟩ = some b := by
  have h0 := heap_alloc_new w (.cells #[z0, z1] E)
  have h1 := heap_setCell_same _ w.heap.size 0 _ E a h0
  have h2 := heap_setCell_same _ w.heap.size 1 _ E b h1
  refine ⟨(((Fr.refl _ w).alloc _).setCell (fun h => absurd h (Nat.lt_irrefl _)) _ _).setCell (fun h => absurd h (Nat.lt_irrefl _)) _ _, ?_, ?_⟩
  · rw [cell_of_row _ _ _ _ _ _ h2]; rfl
  · rw [cell_of_row _ _ _ _ _ _ h2]; rfl

set_option maxRecDepth 20000 in
set_option maxHeartbeats 40000000 in
theorem heapGraphs_walk (x0 : Int) (ao : Option Addr) (N cap L : Nat) (v : Value) (lr : Nat) (g : Nat → Int) (w : World) (hs : OpsIn w ao N L) (hN : N ≤ 1048576) (hL : L ≤ 1048576) (hc : N ≤ cap) (hR : SlI .i64 w v lr g) (hg : ∀ i, i < lr → -9223372036854775808 ≤ g i ∧ g i ≤ 9223372036854775807) (hlr : lr ≤ 1048576) (h01 : -9223372036854775808 ≤ x0) (h02 : x0 ≤ 9223372036854775807) :
    Calls Try.prog 4 #[.int .i64 x0, .slice ao N cap, v] w fun e w' => e = .returned (.bool true) ∧ Below w.heap.size w w' := by
  obtain ⟨iW, hiW, hz0, hz1, hz2⟩ := info_parts infoW
  obtain ⟨iP, hiP, hp0, hp1, hp2⟩ := info_parts infoP
  have KG := grown_fine x0 ao N cap L w hs hN hL ⟨h01, h02⟩ hc
  obtain ⟨aoR, capR, rfl, hRc, hRc2, hRr⟩ := hR
  have HG := hide KG
  have HRr := hide hRr
  have Hg := hide hg
  clear KG hs h01 h02 hRr hg
  go_enter Try.func4, Try.ntmps4
  go_wp2_with (go_at_call 15; refine HG.out.mono ?_; rintro e w1 ⟨ob, hb, rb, sz, tm, n, f, st, m, o, rfl, hO, hF, ht1, ht2, hm, hs1, hs2, hkp⟩; obtain ⟨X, Y, vO, h, bX, bY, bo, bO⟩ := hO; have HN := hide h; have HF := hide hF; have HK := hide hkp; clear h hF hkp HG bY bo bO)
  have hgd := HN.out.H.good
  have hnn : n ≤ 563 := Nat.le_trans hgd.2.2.1 hs2
  obtain ⟨r, hr1, -, hr3⟩ := roots_of HN.out.ol g lr 0 (by decide)
  have hrp : Hid (∀ k, k < lr → isPtr st (r k) = true ∨ r k = 0) := hide fun k hk => by
    rw [← hr1 k hk]
    unfold pk
    by_cases c : m = 0
    · exact .inr (by rw [if_pos c])
    · rw [if_neg c]
      have a1 := Int.emod_nonneg (g k) (b := (m : Int)) (by omega)
      have a2 := Int.emod_lt_of_pos (g k) (b := (m : Int)) (by omega)
      exact .inl (HK.out.ptr _ (by omega))
  have Hr1 := hide hr1
  have Hr3 : Hid (∀ k, k < lr → r k < 18446744073709551616) := hide fun k hk => hr3 k (by omega)
  have HXl : Hid (∀ k, X k → k < w1.heap.size) := hide fun k hk => HN.out.H.lt hk
  clear hgd hr1 hr3
  go_loopw [8, 9] (fun a8 a9 wr => ∃ j : Nat, j ≤ lr ∧ a9 = .int .i64 (j : Int) ∧ Own .u64 33 wr w1.heap.size a8 j r ∧ Fr (fun _ => False) w1 wr) (fun _ a9 _ => lr - (intOf a9).toNat)
  case atStart => exact ⟨0, Nat.zero_le _, rfl, .inl ⟨rfl, rfl⟩, Fr.refl _ _⟩
  case round =>
    obtain ⟨j, hj, rfl, hS, hFr⟩ := hrel
    have HFr := hide hFr
    have hszr : Hid (w1.heap.size ≤ wr.heap.size) := hide hFr.size
    by_cases hlt : j < lr
    · obtain ⟨bR, offR, rfl, hRr⟩ : ∃ b off, aoR = some ⟨b, off, none⟩ ∧ ∀ i, i < lr → w.cell? ⟨b, off + i, none⟩ = some (.int .i64 (g i)) := by
        rcases HRr.out with e | e
        · omega
        · exact e
      have hbl := World.block_lt_of_cell? _ _ (hRr j hlt)
      have cR := ((Fr.trans HF.out hFr (fun _ _ e => e.elim)).cell (o := offR + j) hbl (Nat.not_le.2 hbl)).trans (hRr j hlt)
      have hpk := Hr1.out j hlt
      have hgj := Hg.out j hlt
      generalize g j = gj at *
      obtain ⟨p, hp⟩ : ∃ p, p = r j := ⟨_, rfl⟩
      rw [← hp] at hpk
      have HP := hide hp
      have HPK := hide hpk
      have HS := hide hS
      obtain ⟨aoS, capS, rfl⟩ := hS.shape
      have hgj1 := hgj.1
      have hgj2 := hgj.2
      clear hRr hp hpk hS hFr HRr hgj hbl
      go_wp2_with (first
        | (go_at_call 16; refine (pick_at _ ob hb X rb Y vO sz tm n f st m o gj p HPK.out (HN.out.fr HFr.out (fun _ _ e => e)) hgj1 hgj2).mono ?_; rintro e w2 ⟨rfl, hq2⟩; have F2 := drewFr hq2; have HF2 := hide F2; have hown := (HS.out.fr F2 (fun _ _ e => e)).row; clear F2 hq2)
        | (at_builtin; refine wpList_append_lies _ rfl _ _ 28 rfl w1.heap.size 33 iW (.int .u64 0) 1 8 Try.underlying28 hiW hz0 hz1 hz2 rfl (by decide) _ j _ rfl (hown.alloc _) ⟨w2.heap.size, 0, none⟩ 1 1 [.int .u64 p] rfl rfl (hcells_one _ _ _) (fun u hu => by simp at hu; subst hu; rfl) (by decide) (by unfold maxLen; omega) (by omega) (by have := hszr.out; have := HF2.out.size; simp; omega) (w2.heap.size + 1) (by simp) ?_; intro g5 cap5 w5 hown5 hgrow5 hat5 hlt5))
      have F5 : Fr (fun i => (Value.slice aoS j capS).ownBlock = some i) w2 w5 := ((Fr.refl _ w2).alloc _).grow hgrow5 (fun k _ e => e)
      refine ⟨⟨j + 1, by omega, by go_num, Own.snocF hown5 HP.out.symm, Fr.trans (Fr.trans HFr.out HF2.out (fun _ _ e => e)) F5 (fun k hk e => by have := HS.out.ge e; omega)⟩, ?_⟩
      simp [intOf]
      omega
    · have hjl : lr = j := by omega
      subst hjl
      obtain ⟨aoS, capS, rfl⟩ := hS.shape
      have hgd := HN.out.H.good
      have hC : ∃ T a, T = collS n f st r lr ∧ a = (fun k => mvV f st (r k) (rootsS f st r k MS.zero)) := ⟨_, _, rfl, rfl⟩
      obtain ⟨T, a, hT, ha⟩ := hC
      obtain ⟨c1, c2, c3⟩ := coll_gr (R := fun _ => True) hgd.1 hgd.2.1 (by omega) (fun _ _ _ _ _ _ _ => trivial) r lr (fun _ _ _ => trivial)
      rw [← hT] at c1 c2 c3
      obtain ⟨bk, hbk⟩ := back_of c2
      have hTl : T.n ≤ 563 := Nat.le_trans (c1.le hgd.1) hnn
      have hTp : 1 ≤ T.n := c1.good.pos
      have hnp : 1 ≤ n := hgd.1.pos
      have KC := fun w2 (h2 : Fr (fun _ => False) wr w2) => collect_any w2 hb X sz tm n f st aoS lr capS r (HN.out.H.fr (Fr.trans hFr h2 (fun _ _ e => e)) (fun _ _ e => e)) ht1 (by omega) ((hS.fr h2 (fun _ _ e => e)).hr HXl.out).1 Hr3.out (by omega) ((hS.fr h2 (fun _ _ e => e)).hr HXl.out).2.1 ((hS.fr h2 (fun _ _ e => e)).hr HXl.out).2.2
      rw [← hT, ← ha] at KC
      have HKC := hide KC
      have Hpair : Hid (∀ i, i < lr → Pr st T (r i) (a i) ∧ r i < 18446744073709551616) := hide fun i hi => by
        have := c3 i hi
        rw [ha]
        show Pr st T (r i) (mvV f st (r i) (rootsS f st r i MS.zero)) ∧ _
        rw [this.2]
        exact ⟨pr_of this.1 (by rcases hrp.out i hi with e | e; exact .inl e; exact .inr (.inr e)), Hr3.out i hi⟩
      have HG1 := hide (And.intro hgd.1 hgd.2.1)
      have HT1 := hide c1
      have HT2 := hide c2
      have HTe := hide hT
      have Hbk := hide hbk
      have HS := hide hS
      have d0 := (hFr.cell (o := 0) HN.out.lt (fun e => e)).trans HN.out.cells.1
      have hoX := hide HN.out.oX
      have hol : Hid (ob < wr.heap.size) := hide (Nat.lt_of_lt_of_le HN.out.lt hFr.size)
      have HFw := hide (HF.out.on hFr.some)
      have HHr := hide (HN.out.H.fr hFr (fun _ _ e => e))
      have hne : ((lr : Int) != (lr : Int)) = false := by simp
      clear KC hT ha hS hFr hlt hj hgd c1 c2 c3 hbk
      go_wp2_with (first
        | (at_make; refine wpList_mkW rfl _ _ rfl .i64 .i64 _ _ (T.n + 1) rfl rfl (by omega) (by omega) (by omega) ?_; intro w6 R6 F6; have HMk2 := hide R6; have HF6 := hide F6; clear R6 F6)
        | (at_make; refine wpList_mkW rfl _ _ rfl .i64 .i64 _ _ (n + 1) rfl rfl (by omega) (by omega) (by omega) ?_; intro w5 R5 F5; have HMk1 := hide R5; have HF5 := hide F5; clear R5 F5)
        | (go_at_call 18; refine (HKC.out w2 HF2.out).mono ?_; rintro e w3 ⟨gm, X2, rfl, hgm, R3, nX3, H3, G3, F3⟩; have f0 := (F3.cell (o := 0) (Nat.lt_of_lt_of_le hol.out HF2.out.size) hoX.out).trans e0; have HH3 := hide H3; have HR3 := hide R3; have HV3 := hide (HV2.out.fr F3 (fun e => by have := HXl.out _ e; have := hgwl.out; have := hszr.out; omega)); have HSS3 := hide ((HS.out.fr HF2.out (fun _ _ e => e)).fr F3 (fun gg hgg e => by have := HS.out.ge hgg; have := HXl.out _ e; omega)); have HF3 := hide ((HFw.out.on HF2.out.some).on (F3.from bX)); have hgm3 := hide hgm; have hsz3 : Hid (w2.heap.size ≤ w3.heap.size) := hide F3.size; clear hgm R3 nX3 H3 G3 F3 e0)
        | (go_at_call 17; refine (words_any w3 hb X2 sz _ _ _ _ HH3.out).mono ?_; rintro e w4 ⟨v4, rfl, Q4, F4⟩; obtain ⟨gn, capN, rfl, hgn, RN, capNl⟩ := Q4.rowOf hTp; have HN4 := hide RN; have HV4 := hide (HV3.out.fr F4 (fun e => e)); have HR4 := hide (HR3.out.fr F4 (fun e => e)); have HSS4 := hide (HSS3.out.fr F4 (fun _ _ e => e)); have HF4 := hide (HF3.out.on F4.some); have hgnl := hide hgn; clear Q4 F4 RN hgn)
        | (go_at_call 17; refine (words_any wr hb X sz _ _ _ _ HHr.out).mono ?_; rintro e w2 ⟨v2, rfl, Q2, F2⟩; have e0 := (F2.cell (o := 0) hol.out (fun e => e)).trans d0; have HF2 := hide F2; obtain ⟨gw, capA, rfl, hgw, RA, capAl⟩ := Q2.rowOf hnp; have HV2 := hide RA; have hgwl := hide hgw; clear Q2 F2 RA hgw d0))
      obtain ⟨gB, hgB⟩ : ∃ gB, gB = w6.heap.size := ⟨_, rfl⟩
      obtain ⟨gT, hgT⟩ : ∃ gT, gT = w4.heap.size := ⟨_, rfl⟩
      obtain ⟨gF, hgF⟩ : ∃ gF, gF = w5.heap.size := ⟨_, rfl⟩
      rw [← hgT, ← hgF]
      have HMT := HMk1.out
      have HMF := HMk2.out
      rw [← hgT] at HMT
      rw [← hgF] at HMF
      have l1 := HV2.out.lt
      have l2 := HN4.out.lt
      have l3 := HMT.lt
      have l4 := HMF.lt
      have l5 := hgnl.out
      have l6 := hsz3.out
      have l7 := HF5.out.size
      have l8 := HF6.out.size
      have hgw0 : w.heap.size ≤ gw := Nat.le_trans HFw.out.size hgwl.out
      have n1 : gw ≠ gT := by omega
      have n2 : gw ≠ gF := by omega
      have n3 : gn ≠ gT := by omega
      have n4 : gn ≠ gF := by omega
      have n5 : gT ≠ gF := by omega
      have hlts : Hid (gw < gB ∧ gn < gB ∧ gT < gB ∧ gF < gB ∧ w.heap.size ≤ gw ∧ w.heap.size ≤ gB ∧ w.heap.size ≤ gT ∧ w.heap.size ≤ gF ∧ gm < gB ∧ w4.heap.size ≤ gB) := hide ⟨by omega, by omega, by omega, by omega, hgw0, by have := HF4.out.size; omega, by have := HF4.out.size; omega, by have := HF4.out.size; omega, by have := HR4.out.lt; omega, by omega⟩
      have F46 : Fr (fun _ => False) w4 w6 := Fr.trans HF5.out HF6.out (fun _ _ e => e)
      have HT6 := hide (HMT.fr HF6.out (fun e => e))
      have HF6' := hide HMF
      have HW6 := hide (HV4.out.fr F46 (fun e => e))
      have HN6 := hide (HN4.out.fr F46 (fun e => e))
      have HM6 := hide (HR4.out.fr F46 (fun e => e))
      have HS6 := hide (HSS4.out.fr F46 (fun _ _ e => e))
      have HFF := hide (HF4.out.on F46.some)
      have hSb : Hid (∀ gg, (Value.slice aoS lr capS).ownBlock = some gg → gg < gB) := hide fun gg hgg => by have := HSS4.out.block_lt hgg; have := hlts.out; omega
      have HgB := hide hgB
      clear HMT HMF HMk1 HMk2 l1 l2 l3 l4 l5 l6 l7 l8 hgw0 F46 HV2 HV3 HV4 HN4 HR3 HR4 HSS3 HSS4 HF2 HF3 HF4 HF5 HF6 HKC HFr HHr HN HF HFw HS hgT hgF hgB f0 hgnl hsz3 hgwl hgm3 hoX hol Hr1 hrp HXl HRr Hg HH3 hszr
      go_loopw [15, 16] (fun a15 a16 wr => ∃ j : Nat, j ≤ lr ∧ a16 = .int .i64 (j : Int) ∧ PRow wr gB a15 j r a ∧ Fr (fun k => gB ≤ k) w6 wr) (fun _ a16 _ => lr - (intOf a16).toNat)
      case atStart => exact ⟨0, Nat.zero_le _, rfl, PRow.zero (by rw [HgB.out]; exact Nat.le_refl _) r a, (Fr.refl _ _).alloc _⟩
      case round =>
        obtain ⟨j, hj, rfl, hP, hFr⟩ := hrel
        by_cases hlt : j < lr
        · obtain ⟨gS, capS', eS, hcS1, hcS2, cS⟩ := HS6.out.rd hlt
          cases eS
          have hgS := hSb.out gS rfl
          have cl := (hFr.cell (o := j) (World.block_lt_of_cell? _ _ cS) (Nat.not_le.2 hgS)).trans cS
          have cm := (hFr.cell (o := j) HM6.out.lt (Nat.not_le.2 hlts.out.2.2.2.2.2.2.2.2.1)).trans (HM6.out.cell hlt)
          obtain ⟨p, hp⟩ : ∃ p, p = r j := ⟨_, rfl⟩
          obtain ⟨q, hq⟩ : ∃ q, q = a j := ⟨_, rfl⟩
          rw [← hp] at cl
          rw [← hq] at cm
          have HP := hide hp
          have HQ := hide hq
          have HPR := hide hP
          obtain ⟨aoL, capL, rfl⟩ := hP.shape
          have hown : wr.ownsRow gB 43 2 (.slice aoL j capL) j (cellsP r a j) := hP
          have hbse : gB ≤ wr.heap.size := by rw [HgB.out]; exact hFr.size
          have HFr := hide hFr
          have hjI : (j : Int) < (lr : Int) := by omega
          clear hp hq hP hFr cS hgS
          go_wp2
          go_region_law
            ((refine step_append_lies _ (by rfl) _ _ 42 (by rfl) gB 43 iP (.agg #[.int .u64 0, .int .u64 0]) 2 16 Try.underlying42 hiP hp0 hp1 hp2 rfl (by decide) (.slice aoL j capL) j _ (by rfl) (World.ownsRow.alloc (w := wr.drew) hown _) ⟨wr.heap.size, 0, none⟩ 1 1 [.int .u64 (p : Int), .int .u64 (q : Int)] (by rfl) rfl (hcells_two wr.drew _ _ _) (fun u hu => by simp at hu; rcases hu with rfl | rfl <;> rfl) (by decide) (by unfold maxLen; omega) (by omega) (by simp; omega) (wr.heap.size + 1) (by simp) ?_; intro g5 cap5 w5 hown5 hgrow5 hat5 hlt5; have F5 := ((Fr.refl (fun k => (Value.slice aoL j capL).ownBlock = some k) wr).drew.alloc _).grow hgrow5 (fun k _ e => e); have HO5 := hide hown5; have HF5 := hide F5; clear hown5 hgrow5 hat5 hlt5 F5))
          all_goals
            go_wp2
            refine ⟨⟨j + 1, by omega, by go_num, PRow.pushF HO5.out HP.out.symm HQ.out.symm, Fr.trans HFr.out HF5.out (fun k _ e => HPR.out.ge e)⟩, ?_⟩
            simp [intOf]
            omega
        · have hjl : lr = j := by omega
          subst hjl
          have HL0 := hide hP
          have hw0 : Wk n f st T r lr lr r a (fun _ => false) 0 := ⟨fun i hi => Hpair.out i hi, (fun p e => by cases e), sumL_none.symm, (fun p e => by cases e), fun k hk _ => .inr ⟨k, hk, rfl⟩⟩
          have HG0 : Hid (Gs w n f st T bk r lr gw capA gn capN gT gF gB wr _ lr r a (fun _ => false) 0) := hide ⟨hw0, hP, (HT6.out.fr hFr (Nat.not_le.2 hlts.out.2.2.1)).congr (fun i _ => rfl), (HF6'.out.fr hFr (Nat.not_le.2 hlts.out.2.2.2.1)).congr (fun i _ => by simp [fromF]), HW6.out.fr hFr (Nat.not_le.2 hlts.out.1), HN6.out.fr hFr (Nat.not_le.2 hlts.out.2.1), HFF.out.on (hFr.mono (fun k _ e => Nat.le_trans hlts.out.2.2.2.2.2.1 e)), by omega, by rw [HgB.out]; exact hFr.size⟩
          clear hP hFr hw0 HL0 HT6 HF6' HW6 HN6 HM6 HS6 HFF hSb hlt hj
          go_wp2
          go_loopw [15, 17] (fun a15 a17 wr => ∃ (c : Nat) (A B : Nat → Nat) (mk : Nat → Bool) (met : Nat), a17 = .int .i64 (met : Int) ∧ Gs w n f st T bk r lr gw capA gn capN gT gF gB wr a15 c A B mk met) (fun a15 a17 _ => (T.n - (intOf a17).toNat) + lenOf a15)
          case atStart => exact ⟨lr, r, a, _, 0, rfl, HG0.out⟩
          case round =>
            clear HG0
            obtain ⟨c, A, B, mk, met, rfl, hG⟩ := hrel
            have hmet := hG.W.le HT1.out
            have hcb := hG.cb
            have hbB := hG.bB
            cases c with
            | zero =>
              obtain ⟨aoL, capL, rfl⟩ := hG.L.shape
              have hdone := hG.W.done HG1.out.1 HG1.out.2 (by omega) HT1.out HTe.out
              have hTI : (met : Int) + 1 = (T.n : Int) := by omega
              have hTT : ((T.n : Int) == (T.n : Int)) = true := by simp
              have HF' := hide hG.F
              clear hG hdone
              go_wp2_with (go_at_call 12; refine (awake_any _).mono ?_; rintro e w10 ⟨rfl, F10⟩)
              go_ret
              exact ⟨rfl, (HF'.out.on F10.some).below (Nat.le_refl _) (fun k hk e => by omega)⟩
            | succ c =>
              obtain ⟨gL, capL, rfl, hcL1, hcL2, ca, cbb, hL'⟩ := hG.L.last
              obtain ⟨hpr, hal⟩ := hG.W.pr c (by omega)
              obtain ⟨va, hva⟩ : ∃ va, va = A c := ⟨_, rfl⟩
              obtain ⟨vb, hvb⟩ : ∃ vb, vb = B c := ⟨_, rfl⟩
              rw [← hva] at ca hpr hal
              rw [← hvb] at cbb hpr
              obtain ⟨c1, hc1⟩ : ∃ c1, c1 = c + 1 := ⟨_, rfl⟩
              rw [← hc1]
              have hI1 : (c1 : Int) - 1 = (c : Int) := by omega
              have hI2 : (0 : Int) < (c1 : Int) := by omega
              have hI3 : (c : Int) < (c1 : Int) := by omega
              have hI6 : decide (0 < c1) = true := by simp; omega
              have hI4 : (c1 : Int) ≤ (capL : Int) := by omega
              have hI5 : (c : Int) ≤ (capL : Int) := by omega
              have hw1 : IntKind.i64.wrap (c : Int) = (c : Int) := by simp only [IntKind.wrap, IntKind.bits, IntKind.signed]; simp; omega
              obtain ⟨F2, b0, b1⟩ := twoSet wr 43 (.int .u64 0) (.int .u64 0) (.int .u64 (va : Int)) (.int .u64 (vb : Int))
              have HG := hide hG
              have HL' := hide hL'
              have HC1 := hide hc1
              have HVA := hide hva
              have HVB := hide hvb
              clear hG hL' hc1 hva hvb
              have hmes : T.n - met + c < T.n - met + c1 := by have := HC1.out; omega
              rcases hpr with ⟨hp, h0, hb4⟩ | ⟨hp, rfl⟩
              · obtain ⟨hst, hm4⟩ := isPtr_st hp
                obtain ⟨p, hpE⟩ : ∃ p, p = va / 4 := ⟨_, rfl⟩
                rw [← hpE] at hst h0 hb4
                obtain ⟨q, hqE⟩ : ∃ q, q = T.fw p := ⟨_, rfl⟩
                rw [← hqE] at h0 hb4
                have hin := (HG1.out.1.inn p hst).2
                have hin1 := (HG1.out.1.inn p hst).1
                obtain ⟨w1', w2', w3', w4'⟩ := HT1.out.went p (by rw [← hqE]; exact h0)
                rw [← hqE] at w2' w3' w4'
                have hinT := (HT1.out.good.inn q w3').2
                rw [w4'] at hinT
                have hLp : hLen (f p) = 1 + hTag (f p) + hRaw (f p) := rfl
                have hbq : bk q = p := by rw [hqE]; exact Hbk.out p (by rw [← hqE]; exact h0)
                have i1 : (va : Int) % 4 = 0 := by omega
                have i2 : (va : Int).tmod 4 = 0 := by rw [Int.tmod_eq_emod_of_nonneg (by omega)]; exact i1
                have i3 : (va : Int) / 4 = (p : Int) := by omega
                have i4 : (va : Int).tdiv 4 = (p : Int) := by rw [Int.tdiv_eq_ediv_of_nonneg (by omega)]; exact i3
                have i5 : ((va : Int) == 0) = false := by rw [beq_eq_false_iff_ne]; omega
                have k1 : (vb : Int) % 4 = 0 := by omega
                have k2 : (vb : Int).tmod 4 = 0 := by rw [Int.tmod_eq_emod_of_nonneg (by omega)]; exact k1
                have k3 : (vb : Int) / 4 = (q : Int) := by omega
                have k4 : (vb : Int).tdiv 4 = (q : Int) := by rw [Int.tdiv_eq_ediv_of_nonneg (by omega)]; exact k3
                have k5 : ((vb : Int) != 0) = true := by rw [bne_iff_ne]; omega
                have m1 : (p : Int) < (n : Int) := by omega
                have m2 : (q : Int) < (T.n : Int) := by omega
                have m3 : decide ((n : Int) ≤ (p : Int)) = false := by simp; omega
                have m4 : decide ((T.n : Int) ≤ (q : Int)) = false := by simp; omega
                have m5 : decide (n ≤ p) = false := by simp; omega
                have m6 : decide (T.n ≤ q) = false := by simp; omega
                have hva' : ((va : Int) != (va : Int)) = false := by simp
                have hvb' : ((vb : Int) != (vb : Int)) = false := by simp
                have cT := HG.out.to.cell (i := p) (by omega)
                have cF := HG.out.fr.cell (i := q) (by omega)
                have FA : Fr (fun _ => False) wr (wr.alloc (.cells #[.int .u64 (va : Int), .int .u64 (vb : Int)] 43)) := (Fr.refl _ _).alloc _
                cases hmk : mk p with
                | true =>
                  have e1 : toF T mk p = vb := by unfold toF; rw [if_pos hmk, hb4, hqE]
                  have e2 : fromF T bk mk q = va := by unfold fromF; rw [hbq, w3', hmk]; simp; omega
                  rw [e1] at cT
                  rw [e2] at cF
                  have cT' := (FA.cell (o := p) HG.out.to.lt (fun e => e)).trans cT
                  have cF' := (FA.cell (o := q) HG.out.fr.lt (fun e => e)).trans cF
                  have Hd : Hid (isPtr st (A c) = true → mk (A c / 4) = true) := hide fun _ => by rw [← HVA.out, ← hpE]; exact hmk
                  clear e1 e2 FA hmk w1' w2' w3' w4' hinT hin hin1 hLp hbq hst hm4 hp h0 hb4 hpE hqE F2 b0 b1
                  go_wp2
                  refine ⟨⟨c, A, B, mk, met, rfl, HG.out.popped HL'.out Hd.out ((Fr.refl _ _).alloc _)⟩, ?_⟩
                  simp [intOf, lenOf]
                  have := HC1.out
                  omega
                | false =>
                  have e1 : toF T mk p = 0 := by unfold toF; rw [hmk]; simp
                  have e2 : fromF T bk mk q = 0 := by unfold fromF; rw [hbq, hmk]; simp
                  rw [e1] at cT
                  rw [e2] at cF
                  have cT' := (FA.cell (o := p) HG.out.to.lt (fun e => e)).trans cT
                  have cF' := (FA.cell (o := q) HG.out.fr.lt (fun e => e)).trans cF
                  have RT := HG.out.to.fr FA (fun e => e)
                  have RF := HG.out.fr.fr FA (fun e => e)
                  have RA := HG.out.was.fr FA (fun e => e)
                  have RN := HG.out.now.fr FA (fun e => e)
                  have PL := HL'.out.fr FA (fun _ _ e => e)
                  have FR : Fr (fun k => k = gT ∨ k = gF) (wr.alloc (.cells #[.int .u64 (va : Int), .int .u64 (vb : Int)] 43)) (((wr.alloc (.cells #[.int .u64 (va : Int), .int .u64 (vb : Int)] 43)).setCell ⟨gT, p, none⟩ (.int .u64 (vb : Int))).setCell ⟨gF, q, none⟩ (.int .u64 (va : Int))) := ((Fr.refl _ _).setCell (fun _ => .inl rfl) _ _).setCell (fun _ => .inr rfl) _ _
                  have frT := RT.free p
                  have frF := (RF.fr (S := fun k => k = gT) (Fr.setCell (S := fun k => k = gT) (w := wr.alloc (.cells #[.int .u64 (va : Int), .int .u64 (vb : Int)] 43)) (Fr.refl _ _) (g := gT) (fun _ => rfl) p (.int .u64 (vb : Int))) (Ne.symm n5)).free q
                  have RT2 := (RT.set (i := p) (by omega) vb).fr (S := fun k => k = gF) (Fr.setCell (S := fun k => k = gF) (Fr.refl _ _) (g := gF) (fun _ => rfl) q (.int .u64 (va : Int))) n5
                  have RF2 := (RF.fr (S := fun k => k = gT) (Fr.setCell (S := fun k => k = gT) (w := wr.alloc (.cells #[.int .u64 (va : Int), .int .u64 (vb : Int)] 43)) (Fr.refl _ _) (g := gT) (fun _ => rfl) p (.int .u64 (vb : Int))) (Ne.symm n5)).set (i := q) (by omega) va
                  have RA2 := RA.fr FR (by intro e; rcases e with e | e; exact n1 e; exact n2 e)
                  have RN2 := RN.fr FR (by intro e; rcases e with e | e; exact n3 e; exact n4 e)
                  have cw := RA2.cell (i := p) (by omega)
                  have cn := RN2.cell (i := q) (by omega)
                  rw [w4'] at cn
                  obtain ⟨h, hh⟩ : ∃ h, h = f p := ⟨_, rfl⟩
                  obtain ⟨t, ht⟩ : ∃ t, t = hTag (f p) := ⟨_, rfl⟩
                  obtain ⟨u, hu⟩ : ∃ u, u = hRaw (f p) := ⟨_, rfl⟩
                  rw [← hh] at cw cn
                  have q1 : (h : Int) / 256 % 16777216 = (t : Int) := by rw [ht, hh]; unfold hTag; omega
                  have q2 : (h : Int) / 4294967296 % 16777216 = (u : Int) := by rw [hu, hh]; unfold hRaw; omega
                  have q3 : ((h : Int) / 256).tmod 16777216 = (t : Int) := by rw [Int.tmod_eq_emod_of_nonneg (by omega)]; exact q1
                  have q4 : ((h : Int) / 4294967296).tmod 16777216 = (u : Int) := by rw [Int.tmod_eq_emod_of_nonneg (by omega)]; exact q2
                  have q5 : ((h : Int) != (h : Int)) = false := by simp
                  have htl : t ≤ 563 := by omega
                  have hul : u ≤ 563 := by omega
                  have q6 : (q : Int) + (t : Int) + (u : Int) < (T.n : Int) := by omega
                  have q7 : decide ((T.n : Int) ≤ (q : Int) + (t : Int) + (u : Int)) = false := by simp; omega
                  have hpl : p ≤ 563 := by omega
                  have hql : q ≤ 563 := by omega
                  have hmetl : met ≤ 563 := by omega
                  have Hmk := hide hmk
                  have HPE := hide hpE
                  have HQE := hide hqE
                  have HB4 := hide hb4
                  have HPT := hide hp
                  have HH0 := hide h0
                  have Hhh := hide hh
                  have Htt := hide ht
                  have Huu := hide hu
                  have Hin := hide (And.intro hin hinT)
                  have Hw4 := hide w4'
                  have HRT2 := hide RT2
                  have HRF2 := hide RF2
                  have HRA2 := hide RA2
                  have HRN2 := hide RN2
                  have HPL2 := hide (PL.fr FR (fun gg hgg e => by have := HL'.out.ge hgg; have := hlts.out; rcases e with e | e <;> omega))
                  have HFsz : Hid (gB ≤ (((wr.alloc (.cells #[.int .u64 (va : Int), .int .u64 (vb : Int)] 43)).setCell ⟨gT, p, none⟩ (.int .u64 (vb : Int))).setCell ⟨gF, q, none⟩ (.int .u64 (va : Int))).heap.size) := hide (Nat.le_trans hbB (Nat.le_trans FA.size FR.size))
                  have HFF2 := hide ((HG.out.F.on FA.some).on (FR.mono (S' := fun k => w.heap.size ≤ k) (fun k _ e => by have := hlts.out; rcases e with e | e <;> omega)))
                  clear e1 e2 hmk hpE hqE hb4 hp h0 hh ht hu hin hinT hin1 w1' w2' w3' w4' hst hm4 hbq hLp RT RF RA RN PL RT2 RF2 RA2 RN2 FR FA F2 b0 b1 hvb' hva'
                  
                  go_wp2
                  generalize ((wr.alloc (.cells #[.int .u64 (va : Int), .int .u64 (vb : Int)] 43)).setCell ⟨gT, p, none⟩ (.int .u64 (vb : Int))).setCell ⟨gF, q, none⟩ (.int .u64 (va : Int)) = W1 at *
                  obtain ⟨A2, hA2⟩ : ∃ A2 : Nat → Nat, A2 = fun i => if i < c then A i else f (p + (i - c) + 1) := ⟨_, rfl⟩
                  obtain ⟨B2, hB2⟩ : ∃ B2 : Nat → Nat, B2 = fun i => if i < c then B i else T.f (q + (i - c) + 1) := ⟨_, rfl⟩
                  have HA1 : Hid (∀ i, i < c → A i = A2 i ∧ B i = B2 i) := hide fun i hi => by rw [hA2, hB2]; simp [hi]
                  have HA2 : Hid (∀ k, 1 ≤ k → A2 (c + k - 1) = f (p + k) ∧ B2 (c + k - 1) = T.f (q + k)) := hide fun k hk => by
                    rw [hA2, hB2]
                    simp only []
                    rw [if_neg (by omega), if_neg (by omega), show p + (c + k - 1 - c) + 1 = p + k by omega, show q + (c + k - 1 - c) + 1 = q + k by omega]
                    exact ⟨rfl, rfl⟩
                  obtain ⟨tu, htu⟩ : ∃ tu, tu = t + u := ⟨_, rfl⟩
                  have htI : (t : Int) + (u : Int) = (tu : Int) := by omega
                  have Htu := hide htu
                  have htul : tu ≤ 1126 := by omega
                  clear hA2 hB2 htu cw cn cT cF cT' cF' frT frF q1 q2 q3 q4 q6 q7
                  go_loopw [15, 24] (fun a15 a24 wr => ∃ k : Nat, 1 ≤ k ∧ k ≤ tu + 1 ∧ a24 = .int .i64 (k : Int) ∧ PRow wr gB a15 (c + min (k - 1) t) A2 B2 ∧ Fr (fun k => gB ≤ k) W1 wr) (fun _ a24 _ => tu + 1 - (intOf a24).toNat)
                  case atStart => exact ⟨1, Nat.le_refl _, by omega, rfl, (by simpa using HPL2.out.congr HA1.out), Fr.refl _ _⟩
                  case round =>
                    obtain ⟨k, hk1, hk2, rfl, hP, hFr⟩ := hrel
                    by_cases hlt : k ≤ tu
                    · have hLp : hLen (f p) = 1 + hTag (f p) + hRaw (f p) := rfl
                      have hpkn : p + k < n := by have := Hin.out; have := Htt.out; have := Huu.out; have := Htu.out; omega
                      have hqkn : q + k < T.n := by have := Hin.out; have := Htt.out; have := Huu.out; have := Htu.out; omega
                      have cx := (HRA2.out.fr hFr (Nat.not_le.2 hlts.out.1)).cell (i := p + k) hpkn
                      have cy := (HRN2.out.fr hFr (Nat.not_le.2 hlts.out.2.1)).cell (i := q + k) hqkn
                      obtain ⟨pk', hpk⟩ : ∃ pk', pk' = p + k := ⟨_, rfl⟩
                      obtain ⟨qk', hqk⟩ : ∃ qk', qk' = q + k := ⟨_, rfl⟩
                      rw [← hpk] at cx
                      rw [← hqk] at cy
                      have o1 : (p : Int) + (k : Int) = (pk' : Int) := by omega
                      have o2 : (q : Int) + (k : Int) = (qk' : Int) := by omega
                      have o3 : (pk' : Int) < (n : Int) := by omega
                      have o4 : (qk' : Int) < (T.n : Int) := by omega
                      have o5 : (k : Int) ≤ (tu : Int) := by omega
                      have o6 : pk' ≤ 563 := by omega
                      have o7 : qk' ≤ 563 := by omega
                      have hkl : k ≤ 1126 := by omega
                      by_cases hkt : k ≤ t
                      · have hmin : min (k - 1) t = k - 1 := by omega
                        rw [hmin] at hP
                        obtain ⟨c', hc'⟩ : ∃ c', c' = c + (k - 1) := ⟨_, rfl⟩
                        rw [← hc'] at hP
                        obtain ⟨x, hx⟩ : ∃ x, x = f pk' := ⟨_, rfl⟩
                        obtain ⟨y, hy⟩ : ∃ y, y = T.f qk' := ⟨_, rfl⟩
                        rw [← hx] at cx
                        rw [← hy] at cy
                        obtain ⟨aoL, capL', rfl⟩ := hP.shape
                        have hown : wr.ownsRow gB 43 2 (.slice aoL c' capL') c' (cellsP A2 B2 c') := hP
                        have hbse : gB ≤ wr.heap.size := Nat.le_trans HFsz.out hFr.size
                        have hAx : A2 c' = x := by rw [hx, hpk, hc', show c + (k - 1) = c + k - 1 by omega]; exact (HA2.out k hk1).1
                        have hBy : B2 c' = y := by rw [hy, hqk, hc', show c + (k - 1) = c + k - 1 by omega]; exact (HA2.out k hk1).2
                        have HAx := hide hAx
                        have HBy := hide hBy
                        have HFr := hide hFr
                        have HPR := hide hP
                        have HC' := hide hc'
                        have o8 : (k : Int) ≤ (t : Int) := by omega
                        have o9 : c' ≤ 3000000 := by have := HC1.out; omega
                        clear hP hFr hx hy hpk hqk hc' hAx hBy hmin hLp
                        go_wp2_with (at_builtin; refine wpList_append_lies _ rfl _ _ 42 rfl gB 43 iP (.agg #[.int .u64 0, .int .u64 0]) 2 16 Try.underlying42 hiP hp0 hp1 hp2 rfl (by decide) _ c' _ rfl (hown.alloc _) ⟨wr.heap.size, 0, none⟩ 1 1 [.int .u64 (x : Int), .int .u64 (y : Int)] rfl rfl (hcells_two _ _ _ _) (fun u hu => by simp at hu; rcases hu with rfl | rfl <;> rfl) (by decide) (by unfold maxLen; omega) (by omega) (by simp; omega) (wr.heap.size + 1) (by simp) ?_; intro g5 cap5 w5 hown5 hgrow5 hat5 hlt5)
                        have F5 : Fr (fun i => (Value.slice aoL c' capL').ownBlock = some i) wr w5 := ((Fr.refl _ wr).alloc _).grow hgrow5 (fun k _ e => e)
                        refine ⟨⟨k + 1, by omega, by omega, by go_num, ?_, Fr.trans HFr.out F5 (fun i _ e => HPR.out.ge e)⟩, ?_⟩
                        · have := PRow.pushF hown5 HAx.out HBy.out
                          rw [show c + min (k + 1 - 1) t = c' + 1 by have := HC'.out; omega]
                          exact this
                        · simp [intOf]
                          omega
                      · have hraw := HT2.out.raw p (by rw [← HQE.out]; exact HH0.out) k (by have := Htt.out; have := Huu.out; have := Htu.out; omega) (.inr (by have := Htt.out; omega))
                        rw [← HQE.out, ← hqk, ← hpk] at hraw
                        rw [hraw] at cy
                        obtain ⟨x, hx⟩ : ∃ x, x = f pk' := ⟨_, rfl⟩
                        rw [← hx] at cx cy
                        have hxx : ((x : Int) != (x : Int)) = false := by simp
                        have o8 : ¬ ((k : Int) ≤ (t : Int)) := by omega
                        obtain ⟨aoL, capL', eL⟩ := hP.shape
                        have HPR := hide hP
                        have HFr := hide hFr
                        clear hP hFr hx hpk hqk hraw eL hLp
                        go_wp2
                        refine ⟨⟨k + 1, by omega, by omega, by go_num, ?_, HFr.out⟩, ?_⟩
                        · have := HPR.out
                          rw [show c + min (k + 1 - 1) t = c + min (k - 1) t by omega]
                          exact this
                        · simp [intOf]
                          omega
                    · have hkE : k = tu + 1 := by omega
                      have hmin : c + min (k - 1) t = c + t := by have := Htu.out; omega
                      rw [hmin] at hP
                      have hW2 := HG.out.W.meet HG1.out.1 HT1.out HT2.out HK.out.fine HG1.out.2 (by rw [← HVA.out]; exact HPT.out) (by rw [← HVA.out, ← HPE.out, ← HQE.out]; exact HH0.out) (by rw [← HVA.out, ← HPE.out]; exact Hmk.out) (A2 := A2) (B2 := B2) (fun i hi => ⟨(HA1.out i hi).1.symm, (HA1.out i hi).2.symm⟩) (fun j hj1 _ => by rw [← HVA.out, ← HPE.out, ← HQE.out]; exact HA2.out j hj1)
                      rw [← HVA.out, ← HPE.out, ← Htt.out] at hW2
                      have hlen : hLen (f p) = 1 + t + u := by have := Htt.out; have := Huu.out; unfold hLen; omega
                      rw [hlen] at hW2
                      have hle2 := hW2.le HT1.out
                      have hGs : Gs w n f st T bk r lr gw capA gn capN gT gF gB wr _ (c + t) A2 B2 (mark mk p) (met + (1 + t + u)) := ⟨hW2, hP, (HRT2.out.fr hFr (Nat.not_le.2 hlts.out.2.2.1)).congr (fun i _ => by rw [toF_mark, HB4.out, HQE.out]), (HRF2.out.fr hFr (Nat.not_le.2 hlts.out.2.2.2.1)).congr (fun i _ => by rw [fromF_mark Hbk.out HT1.out HT2.out (by rw [← HQE.out]; exact HH0.out), ← HQE.out, show va = 4 * p by have := (isPtr_st HPT.out).2; have := HPE.out; omega]), HRA2.out.fr hFr (Nat.not_le.2 hlts.out.1), HRN2.out.fr hFr (Nat.not_le.2 hlts.out.2.1), HFF2.out.on (hFr.mono (fun k _ e => Nat.le_trans hlts.out.2.2.2.2.2.1 e)), by have := HC1.out; omega, Nat.le_trans HFsz.out hFr.size⟩
                      obtain ⟨aoL, capL', rfl⟩ := hP.shape
                      have HGs := hide hGs
                      have Hle2 := hide hle2
                      have o5 : ¬ ((k : Int) ≤ (tu : Int)) := by omega
                      clear hW2 hGs hP hFr hlen hmin hle2
                      go_wp2
                      refine ⟨⟨c + t, A2, B2, mark mk p, met + (1 + t + u), by go_num, HGs.out⟩, ?_⟩
                      have := HC1.out
                      have := Hle2.out
                      simp [intOf, lenOf]
                      omega
              · have Hno : Hid (isPtr st (A c) = true → mk (A c / 4) = true) := hide fun e => by
                  rw [← HVA.out] at e
                  obtain ⟨e1, e2⟩ := isPtr_st e
                  have := (HG1.out.1.inn _ e1).1
                  omega
                have hee : ((vb : Int) != (vb : Int)) = false := by simp
                clear F2 b0 b1
                by_cases h4 : vb % 4 = 0
                · have hv0 : vb = 0 := by omega
                  subst hv0
                  go_wp2
                  refine ⟨⟨c, A, B, mk, met, rfl, HG.out.popped HL'.out Hno.out ((Fr.refl _ _).alloc _)⟩, ?_⟩
                  simp [intOf, lenOf]
                  have := HC1.out
                  omega
                · obtain ⟨rr, hrr⟩ : ∃ rr, vb % 4 = rr := ⟨_, rfl⟩
                  have j1 : (vb : Int) % 4 = (rr : Int) := by omega
                  have j2 : (vb : Int).tmod 4 = (rr : Int) := by rw [Int.tmod_eq_emod_of_nonneg (by omega)]; exact j1
                  have j3 : ((rr : Int) != 0) = true := by rw [bne_iff_ne]; omega
                  clear h4 hrr hp
                  go_wp2
                  refine ⟨⟨c, A, B, mk, met, rfl, HG.out.popped HL'.out Hno.out ((Fr.refl _ _).alloc _)⟩, ?_⟩
                  simp [intOf, lenOf]
                  have := HC1.out
                  omega

end Go.Proofs.Ytfeofdeffmnbkaa
