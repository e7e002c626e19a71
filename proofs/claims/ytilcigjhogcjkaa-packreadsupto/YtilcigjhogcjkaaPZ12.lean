/-
  What is proved here: what the document's reader of data leaves is of what was there; rows of data in memory; no walk. the document's reader, whatever went ahead: its calls, right or wrong alike. the document's reader of a program: what a round has made; no walk. the document's reader of a program: what all rounds come to; a proto that a round has made; no walk. the document's reader of a program: what one round adds; no walk.
-/
import Derived.Test.YtilcigjhogcjkaaPZ11
import Derived.Test.YtilcigjhogcjkaaPZ7
namespace Go.Proofs.Ytilcigjhogcjkaa
open Go Go.RowKit

theorem rdNum_suf {l m : List Nat} {n : Nat} (h : rdNum l = some (n, m)) : m <:+ l := (rdG_suf _ _ _ _ _ _ h).2.1

theorem lrDta_suf {α : Type} {f : List Nat → Nat → Option (α × List Nat × Nat)} (hf : Suf f) : Suf (lrDta f) := fun l p x m q h => by
  unfold lrDta at h
  split at h
  · cases h
  · rename_i h1
    have b := rdRowP_suf hf _ _ _ _ _ _ h
    exact ⟨b.1.trans (rdNum_suf h1), b.2⟩

theorem lrRst_suf {α : Type} {f : List Nat → Nat → Option (α × List Nat × Nat)} (hf : Suf f) : Suf (lrRst f) := fun l p x m q h => by
  unfold lrRst at h
  split at h
  · cases h
  · rename_i h1
    split at h
    · cases h
      exact ⟨rdNum_suf h1, Nat.le_refl _⟩
    · split at h
      · split at h
        · cases h
        · rename_i h2
          cases h
          have b := hf _ _ _ _ _ h2
          exact ⟨b.1.trans (rdNum_suf h1), b.2⟩
      · cases h

theorem lrFld_suf {h : Nat} {f : List Nat → Nat → Option (Tr h × List Nat × Nat)} (hf : Suf f) (k : Nat) : Suf (lrFld f k) := fun l p x m q hx => by
  unfold lrFld at hx
  split at hx
  · split at hx
    · cases hx
    · rename_i h1
      cases hx
      exact ⟨(rdMag_suf h1).1, Nat.le_refl _⟩
  · split at hx
    · split at hx
      · cases hx
      · rename_i h1
        cases hx
        exact ⟨(rdSgn_suf h1).2, Nat.le_refl _⟩
    · split at hx
      · split at hx
        · cases hx
        · rename_i h1
          cases hx
          exact ⟨rdTxt_suf h1, Nat.le_refl _⟩
      · split at hx
        · split at hx
          · cases hx
          · rename_i h1
            split at hx
            · cases hx
            · rename_i h2
              cases hx
              exact ⟨(rdSgn_suf h2).2.trans (rdTxt_suf h1), Nat.le_refl _⟩
        · split at hx
          · split at hx
            · cases hx
            · rename_i h1
              split at hx
              · cases hx
              · rename_i h2
                cases hx
                have a := lrDta_suf hf _ _ _ _ _ h1
                have b := lrRst_suf hf _ _ _ _ _ h2
                exact ⟨b.1.trans a.1, Nat.le_trans b.2 a.2⟩
          · split at hx
            · split at hx
              · cases hx
              · rename_i h1
                cases hx
                exact lrDta_suf hf _ _ _ _ _ h1
            · split at hx
              · cases hx
                exact ⟨List.suffix_refl _, Nat.le_refl _⟩
              · cases hx

theorem lrDat_suf : ∀ (h dp : Nat), Suf (lrDat h dp)
  | 0, _, l, p, x, m, q, hx => by cases hx
  | h + 1, 0, l, p, x, m, q, hx => by cases hx
  | h + 1, dp + 1, l, p, x, m, q, hx => by
    simp only [lrDat] at hx
    split at hx
    · cases hx
    · split at hx
      · cases hx
      · rename_i h1
        have a := lrFld_suf (lrDat_suf h dp) _ _ _ _ _ _ hx
        exact ⟨a.1.trans (rdNum_suf h1), by omega⟩

theorem RfS.drew {w0 w : World} {rb : Nat} {l : List Nat} {bad : Bool} {q : Int} (h : RfS w0 w rb l bad q) : RfS w0 w.drew rb l bad q := by
  obtain ⟨hU, hr, v, hB, hR⟩ := h
  exact ⟨⟨hU.os, hU.tape, hU.output, hU.size, hU.block⟩, hr, v, hB, hR⟩

theorem LQ.row {h lo B : Nat} {I : List (Tr h)} {v : Value} {xs : List Value} {W W' : World} (L : LQ lo I v xs W) (hlo : B ≤ lo) (hw : ∀ k, k < W.heap.size → lo ≤ k → W'.heap[k]? = W.heap[k]?) : RowD W' (DatQ (fun b => B ≤ b) W' h) v I ∧ VQ (fun b => B ≤ b) v I.length :=
  ⟨L.fin.1.blk L.fin.2 hw (fun _ _ q => q.keep hw (fun k _ hq => by omega)), L.fin.2.mono (fun k hk => by omega)⟩

theorem ones7 (kk nn : Int) (bb : Bool) (m1 : Option Addr) (m2 m3 : Nat) (tt : ByteArray) (i1 : Option Addr) (i2 i3 : Nat) (r1 : Option Addr) (r2 r3 : Nat) : ∀ u ∈ ([.int .i64 kk, .int .i64 nn, .bool bb, .slice m1 m2 m3, .string tt, .slice i1 i2 i3, .slice r1 r2 r3] : List Value), u.oneCell' = true := by
  intro u hu
  simp at hu
  rcases hu with rfl | rfl | rfl | rfl | rfl | rfl | rfl <;> rfl

theorem DBx.drew {w : World} {D : Nat} {c0 c1 c2 c3 c4 c5 c6 : Value} (h : DBx w D c0 c1 c2 c3 c4 c5 c6) : DBx w.drew D c0 c1 c2 c3 c4 c5 c6 := h

theorem LQ.drew {h lo : Nat} {I : List (Tr h)} {v : Value} {xs : List Value} {W : World} (L : LQ lo I v xs W) : LQ lo I v xs W.drew := L.keep (fun _ _ _ => rfl)

theorem LQ.fr {h lo rb : Nat} {I : List (Tr h)} {v : Value} {xs : List Value} {W W' : World} (L : LQ lo I v xs W) (F : Fr (fun j => j = rb) W W') (hrb : rb < lo) : LQ lo I v xs W' := L.keep (fun g hg hl => F.block g hg (by show g ≠ rb; omega))

theorem LQ.set {h lo b i : Nat} {I : List (Tr h)} {v u : Value} {xs : List Value} {W : World} (L : LQ lo I v xs W) (hb : b < lo) : LQ lo I v xs (W.setCell ⟨b, i, none⟩ u) := L.keep (fun g _ hl => heap_setCell_other _ _ _ _ (by show g ≠ b; omega))

theorem rst_none {α : Type} {f : List Nat → Nat → Option (α × List Nat × Nat)} {l : List Nat} {p : Nat} (h : rdNum l = none) : lrRst f l p = none := by unfold lrRst; rw [h]

theorem rst_zero {α : Type} {f : List Nat → Nat → Option (α × List Nat × Nat)} {l m : List Nat} {p n : Nat} (h : rdNum l = some (n, m)) (h0 : n = 0) : lrRst f l p = some ([], m, p) := by unfold lrRst; rw [h]; simp only [if_pos h0]

theorem rst_one_no {α : Type} {f : List Nat → Nat → Option (α × List Nat × Nat)} {l m : List Nat} {p n : Nat} (h : rdNum l = some (n, m)) (h1 : n = 1) (hf : f m p = none) : lrRst f l p = none := by
  subst h1
  unfold lrRst
  rw [h]
  simp [hf]

theorem rst_one_yes {α : Type} {f : List Nat → Nat → Option (α × List Nat × Nat)} {l m k : List Nat} {p n q : Nat} {d : α} (h : rdNum l = some (n, m)) (h1 : n = 1) (hf : f m p = some (d, k, q)) : lrRst f l p = some ([d], k, q) := by
  subst h1
  unfold lrRst
  rw [h]
  simp [hf]

theorem rst_many {α : Type} {f : List Nat → Nat → Option (α × List Nat × Nat)} {l m : List Nat} {p n : Nat} (h : rdNum l = some (n, m)) (h0 : ¬ n = 0) (h1 : ¬ n = 1) : lrRst f l p = none := by unfold lrRst; rw [h]; simp only [if_neg h0, if_neg h1]

theorem cases3 (n : Int) : (decide (n > 1) = true ∧ (n == 1) = false) ∨ (decide (n > 1) = false ∧ (n == 1) = true) ∨ (decide (n > 1) = false ∧ (n == 1) = false) := by
  by_cases a : n > 1
  · exact .inl ⟨decide_eq_true a, by rw [beq_eq_false_iff_ne]; omega⟩
  · by_cases b : n = 1
    · exact .inr (.inl ⟨decide_eq_false a, by rw [beq_iff_eq]; exact b⟩)
    · exact .inr (.inr ⟨decide_eq_false a, by rw [beq_eq_false_iff_ne]; exact b⟩)

/-- What is left, and how many parts; none: something was wrong. -/
def RfO (w0 w : World) (rb : Nat) (o : Option (List Nat × Nat)) : Prop := match o with
  | none => ∃ l q, RfS w0 w rb l true q
  | some (l, q) => RfS w0 w rb l false (q : Int) ∧ By8 l ∧ l.length ≤ 100000000 ∧ q ≤ 20000

/-- What a reading comes to, of what is left. -/
def og {α : Type} (f : List Nat → Option (α × List Nat)) (o : Option (List Nat × Nat)) : Option (α × List Nat × Nat) := match o with
  | none => none
  | some (l, q) => match f l with
    | none => none
    | some (x, m) => some (x, m, q)

def ogP {α : Type} (f : List Nat → Nat → Option (α × List Nat × Nat)) (o : Option (List Nat × Nat)) : Option (α × List Nat × Nat) := match o with
  | none => none
  | some (l, q) => f l q

def ost {α : Type} (o : Option (α × List Nat × Nat)) : Option (List Nat × Nat) := match o with
  | none => none
  | some (_, m, q) => some (m, q)

def ov {α : Type} (o : Option (α × List Nat × Nat)) (y : α) : Prop := ∀ x m q, o = some (x, m, q) → y = x

theorem ov_none {α : Type} (y : α) : ov (none : Option (α × List Nat × Nat)) y := fun _ _ _ h => by cases h

theorem ov_some {α : Type} {x : α} {m : List Nat} {q : Nat} : ov (some (x, m, q)) x := fun _ _ _ h => by cases h; rfl

theorem RfO.k1 {w0 w : World} {rb : Nat} {o : Option (List Nat × Nat)} (h : RfO w0 w rb o) : w.cell? ⟨rb, 1, none⟩ = some (.bool o.isNone) := by
  cases o with
  | none => obtain ⟨l, q, h⟩ := h; exact h.k1
  | some x => obtain ⟨l, q⟩ := x; exact h.1.k1

theorem RfO.lt {w0 w : World} {rb : Nat} {o : Option (List Nat × Nat)} (h : RfO w0 w rb o) : rb < w.heap.size := by
  cases o with
  | none => obtain ⟨l, q, h⟩ := h; exact h.lt
  | some x => obtain ⟨l, q⟩ := x; exact h.1.lt

theorem RfO.mono {w0 w w' : World} {rb : Nat} {o : Option (List Nat × Nat)} (h : RfO w0 w rb o) (u : Up w w') : RfO w0 w' rb o := by
  cases o with
  | none => obtain ⟨l, q, h⟩ := h; exact ⟨l, q, h.mono u⟩
  | some x => obtain ⟨l, q⟩ := x; exact ⟨h.1.mono u, h.2⟩

theorem RfO.drew {w0 w : World} {rb : Nat} {o : Option (List Nat × Nat)} (h : RfO w0 w rb o) : RfO w0 w.drew rb o := by
  cases o with
  | none => obtain ⟨l, q, h⟩ := h; exact ⟨l, q, h.drew⟩
  | some x => obtain ⟨l, q⟩ := x; exact ⟨h.1.drew, h.2⟩

theorem RfO.setO {w0 w : World} {rb g i : Nat} {u : Value} {o : Option (List Nat × Nat)} (h : RfO w0 w rb o) (hg : rb < g) : RfO w0 (w.setCell ⟨g, i, none⟩ u) rb o := by
  cases o with
  | none => obtain ⟨l, q, h⟩ := h; exact ⟨l, q, h.setO hg⟩
  | some x => obtain ⟨l, q⟩ := x; exact ⟨h.1.setO hg, h.2⟩

theorem RfO.gr {w0 W w9 : World} {rb lo : Nat} {o : Option (List Nat × Nat)} {b : Option Nat} (h : RfO w0 W rb o) (hg : W.grownBy w9 b) (hb : ∀ k, b = some k → lo ≤ k) (hrb : rb < lo) : RfO w0 w9 rb o := by
  cases o with
  | none => obtain ⟨l, q, h⟩ := h; exact ⟨l, q, h.gr hg hb hrb⟩
  | some x => obtain ⟨l, q⟩ := x; exact ⟨h.1.gr hg hb hrb, h.2⟩

theorem RfO.of {w0 w : World} {rb : Nat} {l m : List Nat} {q : Nat} (h : RfS w0 w rb m false (q : Int)) (h8 : By8 l) (hl : l.length ≤ 100000000) (hq : q ≤ 20000) (hs : m <:+ l) : RfO w0 w rb (some (m, q)) := ⟨h, h8.suf hs, Nat.le_trans hs.length_le hl, hq⟩

theorem lnumO (w0 w : World) (rb : Nat) (o : Option (List Nat × Nat)) (h : RfO w0 w rb o) :
    Calls Try.prog 30 #[.pointer (some ⟨rb, 0, none⟩)] w fun e w' => ∃ n : Nat, e = .returned (.int .i64 (n : Int)) ∧ n ≤ 4398046511104 ∧ ov (og rdNum o) n ∧ Fr (fun j => j = rb) w w' ∧ RfO w0 w' rb (ost (og rdNum o)) := by
  cases o with
  | none =>
    obtain ⟨l, q, h⟩ := h
    refine (lnum_bad w0 w rb l q h).mono ?_
    rintro e w' ⟨rfl, F, l', q', hr⟩
    exact ⟨0, rfl, Nat.zero_le _, ov_none _, F, l', q', hr⟩
  | some x =>
    obtain ⟨l, q⟩ := x
    obtain ⟨h, h8, hl, hq⟩ := h
    cases hn : rdNum l with
    | none =>
      refine (lnum_any w0 w rb l _ h h8).mono ?_
      intro e w' hx
      obtain ⟨n, h1, he, F, l', q', hr⟩ := hx.no hn
      have eo : og rdNum (some (l, q)) = none := by unfold og; simp only [hn]
      rw [eo]
      exact ⟨n, he, h1, ov_none _, F, l', q', hr⟩
    | some y =>
      obtain ⟨n, m⟩ := y
      refine (lnum_any w0 w rb l _ h h8).mono ?_
      intro e w' hx
      obtain ⟨he, F, hr⟩ := hx.yes hn
      have eo : og rdNum (some (l, q)) = some (n, m, q) := by unfold og; simp only [hn]
      rw [eo]
      have := rdNum_le hn
      exact ⟨n, he, by omega, ov_some, F, RfO.of hr h8 hl hq (rdNum_suf hn)⟩

theorem lsgnO (w0 w : World) (rb : Nat) (o : Option (List Nat × Nat)) (h : RfO w0 w rb o) :
    Calls Try.prog 32 #[.pointer (some ⟨rb, 0, none⟩)] w fun e w' => ∃ s : Int, e = .returned (.int .i64 s) ∧ ov (og rdSgn o) s ∧ Fr (fun j => j = rb) w w' ∧ RfO w0 w' rb (ost (og rdSgn o)) := by
  cases o with
  | none =>
    obtain ⟨l, q, h⟩ := h
    refine (lsgn_bad w0 w rb l q h).mono ?_
    rintro e w' ⟨s, rfl, F, l', q', hr⟩
    exact ⟨s, rfl, ov_none _, F, l', q', hr⟩
  | some x =>
    obtain ⟨l, q⟩ := x
    obtain ⟨h, h8, hl, hq⟩ := h
    cases hs : rdSgn l with
    | none =>
      have hn : rdNum l = none := by
        unfold rdSgn at hs
        split at hs
        · assumption
        · cases hs
      refine (lsgn_no w0 w rb l _ h h8 hn).mono ?_
      rintro e w' ⟨s, rfl, F, l', q', hr⟩
      have eo : og rdSgn (some (l, q)) = none := by unfold og; simp only [hs]
      rw [eo]
      exact ⟨s, rfl, ov_none _, F, l', q', hr⟩
    | some y =>
      obtain ⟨s, m⟩ := y
      refine (lsgn_yes w0 w rb l m s _ h h8 hs).mono ?_
      rintro e w' ⟨rfl, F, hr⟩
      have eo : og rdSgn (some (l, q)) = some (s, m, q) := by unfold og; simp only [hs]
      rw [eo]
      exact ⟨s, rfl, ov_some, F, RfO.of hr h8 hl hq (rdSgn_suf hs).2⟩

theorem lbitO (w0 w : World) (rb : Nat) (o : Option (List Nat × Nat)) (h : RfO w0 w rb o) :
    Calls Try.prog 31 #[.pointer (some ⟨rb, 0, none⟩)] w fun e w' => ∃ b : Bool, e = .returned (.bool b) ∧ ov (og rdFlag o) b ∧ Fr (fun j => j = rb) w w' ∧ RfO w0 w' rb (ost (og rdFlag o)) := by
  cases o with
  | none =>
    obtain ⟨l, q, h⟩ := h
    refine (lbit_bad w0 w rb l q h).mono ?_
    rintro e w' ⟨rfl, F, l', q', hr⟩
    exact ⟨_, rfl, ov_none _, F, l', q', hr⟩
  | some x =>
    obtain ⟨l, q⟩ := x
    obtain ⟨h, h8, hl, hq⟩ := h
    cases hs : rdFlag l with
    | none =>
      refine (lbit_no w0 w rb l _ h hs).mono ?_
      rintro e w' ⟨rfl, F, l', q', hr⟩
      have eo : og rdFlag (some (l, q)) = none := by unfold og; simp only [hs]
      rw [eo]
      exact ⟨_, rfl, ov_none _, F, l', q', hr⟩
    | some y =>
      obtain ⟨b, m⟩ := y
      refine (lbit_yes w0 w rb l m b _ h hs).mono ?_
      rintro e w' ⟨rfl, F, hr⟩
      have eo : og rdFlag (some (l, q)) = some (b, m, q) := by unfold og; simp only [hs]
      rw [eo]
      exact ⟨b, rfl, ov_some, F, RfO.of hr h8 hl hq (rdFlag_len hs).2⟩

/-- A text behind its number. -/
def otake (n : Nat) (o : Option (List Nat × Nat)) : Option (ByteArray × List Nat × Nat) := match o with
  | none => none
  | some (l, q) => if n ≤ l.length then some (strL (l.take n), l.drop n, q) else none

theorem ltakeO (w0 w : World) (rb n : Nat) (o : Option (List Nat × Nat)) (h : RfO w0 w rb o) :
    Calls Try.prog 29 #[.pointer (some ⟨rb, 0, none⟩), .int .i64 (n : Int)] w fun e w' => ∃ (v : Value) (t : ByteArray), e = .returned v ∧ (convert 23 9 v).run Try.prog w' = .ok (.string t) w' ∧ ov (otake n o) t ∧ Fr (fun j => j = rb) w w' ∧ RfO w0 w' rb (ost (otake n o)) := by
  cases o with
  | none =>
    obtain ⟨l, q, h⟩ := h
    refine (ltake_bad w0 w rb n l q h).mono ?_
    rintro e w' ⟨rfl, hr, F⟩
    exact ⟨_, _, rfl, conv_nil w', ov_none _, F, _, _, hr⟩
  | some x =>
    obtain ⟨l, q⟩ := x
    obtain ⟨h, h8, hl, hq⟩ := h
    by_cases hn : n ≤ l.length
    · refine (ltake_yes w0 w rb n l _ h hn).mono ?_
      rintro e w' ⟨v, rfl, hb, hr, F⟩
      have eo : otake n (some (l, q)) = some (strL (l.take n), l.drop n, q) := if_pos hn
      rw [eo]
      exact ⟨v, _, rfl, BL.convO hb hr, ov_some, F, RfO.of hr h8 hl hq (List.drop_suffix _ _)⟩
    · refine (ltake_no w0 w rb n l _ h (by omega)).mono ?_
      rintro e w' ⟨rfl, hr, F⟩
      have eo : otake n (some (l, q)) = none := if_neg hn
      rw [eo]
      exact ⟨_, _, rfl, conv_nil w', ov_none _, F, _, _, hr⟩

theorem otake_txt {n : Nat} {o : Option (List Nat × Nat)} (h : ov (og rdNum o) n) : otake n (ost (og rdNum o)) = og rdTxt o := by
  cases o with
  | none => rfl
  | some x =>
    obtain ⟨l, q⟩ := x
    simp only [og] at h ⊢
    rw [rdTxt_lr]
    cases hn : rdNum l with
    | none => rfl
    | some y =>
      obtain ⟨k, m⟩ := y
      simp only [hn] at h ⊢
      have hk := h k m q rfl
      subst hk
      show (if n ≤ m.length then some (strL (m.take n), m.drop n, q) else none) = _
      by_cases hq : n ≤ m.length
      · simp only [if_pos hq]
      · simp only [if_neg hq]

/-- A datum, whatever went ahead. -/
def okO {h : Nat} (w0 w : World) (rb : Nat) (o : Option (Tr h × List Nat × Nat)) (e : Ending) (w' : World) : Prop :=
  ∃ (kk nn : Int) (bb : Bool) (m1 : Option Addr) (m2 m3 : Nat) (tt : ByteArray) (i1 : Option Addr) (i2 i3 : Nat) (r1 : Option Addr) (r2 r3 : Nat), e = .returned (.agg #[.int .i64 kk, .int .i64 nn, .bool bb, .slice m1 m2 m3, .string tt, .slice i1 i2 i3, .slice r1 r2 r3]) ∧ Fr (fun j => j = rb) w w' ∧ RfO w0 w' rb (ost o) ∧ ∀ tr m q, o = some (tr, m, q) → DatQ (fun b => w.heap.size ≤ b) w' h tr [.int .i64 kk, .int .i64 nn, .bool bb, .slice m1 m2 m3, .string tt, .slice i1 i2 i3, .slice r1 r2 r3]

theorem ldatO {h : Nat} (hD : LDOK h) (hh : 100 ≤ h) (w0 w : World) (rb p : Nat) (l : List Nat) (hr : RfO w0 w rb (some (l, p))) :
    Calls Try.prog 33 #[.pointer (some ⟨rb, 0, none⟩), .int .i64 1] w fun e w' => okO w0 w rb (lrDat h 100 l p) e w' := by
  obtain ⟨h1, h8, hl, hq⟩ := hr
  refine (hD w0 w rb p 100 1 l h1 h8 hl hq (by decide) hh (by decide)).mono ?_
  intro e w' hx
  cases ho : lrDat h 100 l p with
  | none =>
    obtain ⟨kk, nn, bb, m1, m2, m3, tt, i1, i2, i3, r1, r2, r3, he, F, hb⟩ := hx.no ho
    exact ⟨kk, nn, bb, m1, m2, m3, tt, i1, i2, i3, r1, r2, r3, he, F, hb, fun _ _ _ e => by cases e⟩
  | some y =>
    obtain ⟨tr, m, q⟩ := y
    obtain ⟨kk, nn, bb, m1, m2, m3, tt, i1, i2, i3, r1, r2, r3, he, hd, F, hb⟩ := hx.yes ho
    have hs := lrDat_suf h 100 _ _ _ _ _ ho
    exact ⟨kk, nn, bb, m1, m2, m3, tt, i1, i2, i3, r1, r2, r3, he, F, RfO.of hb h8 hl (Nat.le_trans hs.2 hq) hs.1, fun _ _ _ e => by cases e; exact hd⟩

theorem row_og {α : Type} {f : List Nat → Option (α × List Nat)} {n : Nat} {xs : List α} {l : List Nat} {q : Nat} : moreP xs (og (rdRow f (n + 1)) (some (l, q))) = match og f (some (l, q)) with
    | none => none
    | some (x, m, q) => moreP (xs ++ [x]) (og (rdRow f n) (some (m, q))) := by
  unfold og
  simp only [rdRow]
  cases hf : f l with
  | none => simp only ; rfl
  | some y =>
    obtain ⟨x, m⟩ := y
    simp only 
    cases hr : rdRow f n m with
    | none => simp only ; rfl
    | some z =>
      obtain ⟨ys, k⟩ := z
      simp only 
      simp [moreP]

theorem row_og0 {α : Type} {f : List Nat → Option (α × List Nat)} {xs : List α} {l : List Nat} {q : Nat} : moreP xs (og (rdRow f 0) (some (l, q))) = some (xs, l, q) := by
  simp [og, rdRow, moreP]

theorem row_step {α : Type} {f : List Nat → Option (α × List Nat)} {n : Nat} {xs : List α} {l : List Nat} {q : Nat} {x : α} (h : ov (og f (some (l, q))) x) : moreP xs (og (rdRow f (n + 1)) (some (l, q))) = moreP (xs ++ [x]) (og (rdRow f n) (ost (og f (some (l, q))))) := by
  rw [row_og]
  cases ho : og f (some (l, q)) with
  | none => rfl
  | some y =>
    obtain ⟨z, m, q'⟩ := y
    rw [h z m q' ho]
    rfl

theorem rowP_step {α : Type} {f : List Nat → Nat → Option (α × List Nat × Nat)} {n : Nat} {xs : List α} {l : List Nat} {q : Nat} {x : α} (h : ov (f l q) x) : moreP xs (ogP (rdRowP f (n + 1)) (some (l, q))) = moreP (xs ++ [x]) (ogP (rdRowP f n) (ost (f l q))) := by
  unfold ogP
  simp only [rdRowP]
  cases ho : f l q with
  | none => rfl
  | some y =>
    obtain ⟨z, m, q'⟩ := y
    have := h z m q' ho
    subst this
    simp only [ost]
    cases hr : rdRowP f n m q' with
    | none => simp only ; rfl
    | some u =>
      obtain ⟨ys, k, r⟩ := u
      simp [moreP]

/-- An instruction, part by part. -/
theorem ins_chain {o : Option (List Nat × Nat)} {k : Nat} {a b : Int} (h1 : ov (og rdNum o) k) (h2 : ov (og rdSgn (ost (og rdNum o))) a) (h3 : ov (og rdSgn (ost (og rdSgn (ost (og rdNum o))))) b) :
    ov (og rdIns o) ((k : Int), a, b) ∧ ost (og rdIns o) = ost (og rdSgn (ost (og rdSgn (ost (og rdNum o))))) := by
  cases o with
  | none => exact ⟨ov_none _, rfl⟩
  | some x =>
    obtain ⟨l, q⟩ := x
    simp only [og, rdIns] at *
    cases hn : rdNum l with
    | none => exact ⟨by simp only ; exact ov_none _, by simp only [ost]⟩
    | some y =>
      obtain ⟨k', m⟩ := y
      simp only [hn, ost] at *
      have e1 := h1 k' m q rfl
      subst e1
      cases hs : rdSgn m with
      | none => exact ⟨by simp only ; exact ov_none _, by simp only ⟩
      | some z =>
        obtain ⟨a', m2⟩ := z
        simp only [hs] at *
        have e2 := h2 a' m2 q rfl
        subst e2
        cases ht : rdSgn m2 with
        | none => exact ⟨by simp only ; exact ov_none _, by simp only ⟩
        | some u =>
          obtain ⟨b', m3⟩ := u
          simp only [ht] at *
          have e3 := h3 b' m3 q rfl
          subst e3
          constructor
          · intro x m q' e
            cases e
            rfl
          · first | trivial | rfl

theorem pro_chain {h : Nat} {o : Option (List Nat × Nat)} {nm : ByteArray} {ar fr n5 n7 n9 : Nat} {rs : Bool} {xs : List (Int × Int × Int)} {ks : List (Tr h)} {ns : List ByteArray} {X1 : Option (ByteArray × List Nat × Nat)} {X2 X4 X5 X7 X9 : Option (Nat × List Nat × Nat)} {X3 : Option (Bool × List Nat × Nat)} {X6 : Option (List (Int × Int × Int) × List Nat × Nat)} {X8 : Option (List (Tr h) × List Nat × Nat)} {X10 : Option (List ByteArray × List Nat × Nat)}
    (e1 : X1 = og rdTxt o) (e2 : X2 = og rdNum (ost X1)) (e3 : X3 = og rdFlag (ost X2)) (e4 : X4 = og rdNum (ost X3)) (e5 : X5 = og rdNum (ost X4)) (e6 : X6 = og (rdRow rdIns n5) (ost X5)) (e7 : X7 = og rdNum (ost X6)) (e8 : X8 = ogP (rdRowP (lrDat h 100) n7) (ost X7)) (e9 : X9 = og rdNum (ost X8)) (e10 : X10 = og (rdRow rdTxt n9) (ost X9))
    (v1 : ov X1 nm) (v2 : ov X2 ar) (v3 : ov X3 rs) (v4 : ov X4 fr) (v5 : ov X5 n5) (v6 : ov X6 xs) (v7 : ov X7 n7) (v8 : ov X8 ks) (v9 : ov X9 n9) (v10 : ov X10 ns) :
    ov (ogP (lrPro h) o) ⟨nm, (ar : Int), (fr : Int), rs, xs, ks, ns⟩ ∧ ost (ogP (lrPro h) o) = ost X10 := by
  cases o with
  | none =>
    subst e1; subst e2; subst e3; subst e4; subst e5; subst e6; subst e7; subst e8; subst e9; subst e10
    exact ⟨ov_none _, rfl⟩
  | some x =>
    obtain ⟨l, q⟩ := x
    simp only [ogP, lrPro, lrDta]
    cases a1 : rdTxt l with
    | none =>
      have z : X1 = none := by rw [e1]; simp [og, a1]
      have z2 : X2 = none := by rw [e2, z]; rfl
      have z3 : X3 = none := by rw [e3, z2]; rfl
      have z4 : X4 = none := by rw [e4, z3]; rfl
      have z5 : X5 = none := by rw [e5, z4]; rfl
      have z6 : X6 = none := by rw [e6, z5]; rfl
      have z7 : X7 = none := by rw [e7, z6]; rfl
      have z8 : X8 = none := by rw [e8, z7]; rfl
      have z9 : X9 = none := by rw [e9, z8]; rfl
      have z10 : X10 = none := by rw [e10, z9]; rfl
      exact ⟨ov_none _, by rw [z10]; rfl⟩
    | some y1 =>
      obtain ⟨t, l1⟩ := y1
      have z1 : X1 = some (t, l1, q) := by rw [e1]; simp [og, a1]
      have w1 := v1 _ _ _ z1
      subst w1
      simp only 
      cases a2 : rdNum l1 with
      | none =>
        have z : X2 = none := by rw [e2, z1]; simp [og, ost, a2]
        have z3 : X3 = none := by rw [e3, z]; rfl
        have z4 : X4 = none := by rw [e4, z3]; rfl
        have z5 : X5 = none := by rw [e5, z4]; rfl
        have z6 : X6 = none := by rw [e6, z5]; rfl
        have z7 : X7 = none := by rw [e7, z6]; rfl
        have z8 : X8 = none := by rw [e8, z7]; rfl
        have z9 : X9 = none := by rw [e9, z8]; rfl
        have z10 : X10 = none := by rw [e10, z9]; rfl
        exact ⟨ov_none _, by rw [z10]; rfl⟩
      | some y2 =>
        obtain ⟨k2, l2⟩ := y2
        have z2 : X2 = some (k2, l2, q) := by rw [e2, z1]; simp [og, ost, a2]
        have w2 := v2 _ _ _ z2
        subst w2
        simp only 
        cases a3 : rdFlag l2 with
        | none =>
          have z : X3 = none := by rw [e3, z2]; simp [og, ost, a3]
          have z4 : X4 = none := by rw [e4, z]; rfl
          have z5 : X5 = none := by rw [e5, z4]; rfl
          have z6 : X6 = none := by rw [e6, z5]; rfl
          have z7 : X7 = none := by rw [e7, z6]; rfl
          have z8 : X8 = none := by rw [e8, z7]; rfl
          have z9 : X9 = none := by rw [e9, z8]; rfl
          have z10 : X10 = none := by rw [e10, z9]; rfl
          exact ⟨ov_none _, by rw [z10]; rfl⟩
        | some y3 =>
          obtain ⟨k3, l3⟩ := y3
          have z3 : X3 = some (k3, l3, q) := by rw [e3, z2]; simp [og, ost, a3]
          have w3 := v3 _ _ _ z3
          subst w3
          simp only 
          cases a4 : rdNum l3 with
          | none =>
            have z : X4 = none := by rw [e4, z3]; simp [og, ost, a4]
            have z5 : X5 = none := by rw [e5, z]; rfl
            have z6 : X6 = none := by rw [e6, z5]; rfl
            have z7 : X7 = none := by rw [e7, z6]; rfl
            have z8 : X8 = none := by rw [e8, z7]; rfl
            have z9 : X9 = none := by rw [e9, z8]; rfl
            have z10 : X10 = none := by rw [e10, z9]; rfl
            exact ⟨ov_none _, by rw [z10]; rfl⟩
          | some y4 =>
            obtain ⟨k4, l4⟩ := y4
            have z4 : X4 = some (k4, l4, q) := by rw [e4, z3]; simp [og, ost, a4]
            have w4 := v4 _ _ _ z4
            subst w4
            simp only 
            cases a5 : rdNum l4 with
            | none =>
              have z : X5 = none := by rw [e5, z4]; simp [og, ost, a5]
              have z6 : X6 = none := by rw [e6, z]; rfl
              have z7 : X7 = none := by rw [e7, z6]; rfl
              have z8 : X8 = none := by rw [e8, z7]; rfl
              have z9 : X9 = none := by rw [e9, z8]; rfl
              have z10 : X10 = none := by rw [e10, z9]; rfl
              exact ⟨ov_none _, by rw [z10]; rfl⟩
            | some y5 =>
              obtain ⟨k5, l5⟩ := y5
              have z5 : X5 = some (k5, l5, q) := by rw [e5, z4]; simp [og, ost, a5]
              have w5 := v5 _ _ _ z5
              subst w5
              simp only 
              cases a6 : rdRow rdIns n5 l5 with
              | none =>
                have z : X6 = none := by rw [e6, z5]; simp [og, ost, a6]
                have z7 : X7 = none := by rw [e7, z]; rfl
                have z8 : X8 = none := by rw [e8, z7]; rfl
                have z9 : X9 = none := by rw [e9, z8]; rfl
                have z10 : X10 = none := by rw [e10, z9]; rfl
                exact ⟨ov_none _, by rw [z10]; rfl⟩
              | some y6 =>
                obtain ⟨k6, l6⟩ := y6
                have z6 : X6 = some (k6, l6, q) := by rw [e6, z5]; simp [og, ost, a6]
                have w6 := v6 _ _ _ z6
                subst w6
                simp only 
                cases a7 : rdNum l6 with
                | none =>
                  have z : X7 = none := by rw [e7, z6]; simp [og, ost, a7]
                  have z8 : X8 = none := by rw [e8, z]; rfl
                  have z9 : X9 = none := by rw [e9, z8]; rfl
                  have z10 : X10 = none := by rw [e10, z9]; rfl
                  exact ⟨ov_none _, by rw [z10]; rfl⟩
                | some y7 =>
                  obtain ⟨k7, l7⟩ := y7
                  have z7 : X7 = some (k7, l7, q) := by rw [e7, z6]; simp [og, ost, a7]
                  have w7 := v7 _ _ _ z7
                  subst w7
                  simp only 
                  cases a8 : rdRowP (lrDat h 100) n7 l7 q with
                  | none =>
                    have z : X8 = none := by rw [e8, z7]; simp [ogP, ost, a8]
                    have z9 : X9 = none := by rw [e9, z]; rfl
                    have z10 : X10 = none := by rw [e10, z9]; rfl
                    exact ⟨ov_none _, by rw [z10]; rfl⟩
                  | some y8 =>
                    obtain ⟨k8, l8, q8⟩ := y8
                    have z8 : X8 = some (k8, l8, q8) := by rw [e8, z7]; simp [ogP, ost, a8]
                    have w8 := v8 _ _ _ z8
                    subst w8
                    simp only 
                    cases a9 : rdNum l8 with
                    | none =>
                      have z : X9 = none := by rw [e9, z8]; simp [og, ost, a9]
                      have z10 : X10 = none := by rw [e10, z]; rfl
                      exact ⟨ov_none _, by rw [z10]; rfl⟩
                    | some y9 =>
                      obtain ⟨k9, l9⟩ := y9
                      have z9 : X9 = some (k9, l9, q8) := by rw [e9, z8]; simp [og, ost, a9]
                      have w9 := v9 _ _ _ z9
                      subst w9
                      simp only 
                      cases a10 : rdRow rdTxt n9 l9 with
                      | none =>
                        have z : X10 = none := by rw [e10, z9]; simp [og, ost, a10]
                        exact ⟨ov_none _, by rw [z]; rfl⟩
                      | some y10 =>
                        obtain ⟨k10, l10⟩ := y10
                        have z10 : X10 = some (k10, l10, q8) := by rw [e10, z9]; simp [og, ost, a10]
                        have w10 := v10 _ _ _ z10
                        subst w10
                        simp only 
                        refine ⟨ov_some, ?_⟩
                        rw [z10]
                        rfl

theorem PBx.al {w : World} {B : Nat} {c0 c1 c2 c3 c4 c5 c6 : Value} (h : PBx w B c0 c1 c2 c3 c4 c5 c6) (o : Obj) : PBx (w.alloc o) B c0 c1 c2 c3 c4 c5 c6 := (heap_alloc_old _ _ h.lt).trans h

theorem PBx.gr {W w9 : World} {D lo : Nat} {c0 c1 c2 c3 c4 c5 c6 : Value} {b : Option Nat} (h : PBx W D c0 c1 c2 c3 c4 c5 c6) (hg : W.grownBy w9 b) (hb : ∀ k, b = some k → lo ≤ k) (hD : D < lo) : PBx w9 D c0 c1 c2 c3 c4 c5 c6 := (hg.block D h.lt (fun e => by have := hb D e.symm; omega)).trans h

theorem PBx.drew {w : World} {B : Nat} {c0 c1 c2 c3 c4 c5 c6 : Value} (h : PBx w B c0 c1 c2 c3 c4 c5 c6) : PBx w.drew B c0 c1 c2 c3 c4 c5 c6 := h

/-- An instruction's variable. -/
theorem IBx.lt {w : World} {B : Nat} {c0 c1 c2 : Value} (h : IBx w B c0 c1 c2) : B < w.heap.size := (Array.getElem?_eq_some_iff.1 h).1

theorem IBx.fz {w : World} {B : Nat} {c0 c1 c2 : Value} (h : IBx w B c0 c1 c2) (i : Nat) : w.frozen? ⟨B, i, none⟩ = false := frozen_of_row _ _ _ _ _ h

theorem IBx.frr {w w' : World} {B rb : Nat} {c0 c1 c2 : Value} (h : IBx w B c0 c1 c2) (F : Fr (fun j => j = rb) w w') (hn : B ≠ rb) : IBx w' B c0 c1 c2 := (F.block B h.lt hn).trans h

theorem IBx.s1 {w : World} {B : Nat} {c0 c1 c2 : Value} (h : IBx w B c0 c1 c2) (v : Value) : IBx (w.setCell ⟨B, 1, none⟩ v) B c0 v c2 := (heap_setCell_same w B 1 _ _ v h).trans rfl

theorem IBx.s2 {w : World} {B : Nat} {c0 c1 c2 : Value} (h : IBx w B c0 c1 c2) (v : Value) : IBx (w.setCell ⟨B, 2, none⟩ v) B c0 c1 v := (heap_setCell_same w B 2 _ _ v h).trans rfl

theorem hcells3 (w : World) (c0 c1 c2 : Value) (E : TypeId) : ∀ j u, [c0, c1, c2][j]? = some u → (w.alloc (.cells #[c0, c1, c2] E)).cell? ((⟨w.heap.size, 0, none⟩ : Addr).add j) = some u := by
  intro j u hj
  rw [Addr.add_lit, Nat.zero_add, cell_of_row _ _ j _ _ _ (heap_alloc_new w _)]
  simpa using hj

theorem hcells3s (w : World) (b i : Nat) (y c0 c1 c2 : Value) (E : TypeId) : ∀ j u, [c0, c1, c2][j]? = some u → ((w.setCell ⟨b, i, none⟩ y).alloc (.cells #[c0, c1, c2] E)).cell? ((⟨w.heap.size, 0, none⟩ : Addr).add j) = some u := by
  have e : (w.setCell ⟨b, i, none⟩ y).heap.size = w.heap.size := by simp [World.setCell]
  rw [← e]
  exact hcells3 _ _ _ _ _

/-- Protos of the call's own, in blocks from lo on. -/
structure LPr {h : Nat} (lo : Nat) (I : List (PC h)) (v : Value) (xs : List Value) (W : World) : Prop where
  own : W.ownsRow lo 48 7 v I.length xs
  it : ∀ j (hj : j < I.length), PQ (fun b => lo ≤ b ∧ v.ownBlock ≠ some b) W I[j] (seven xs j)

theorem LPr.nil (h lo : Nat) (W : World) : LPr lo ([] : List (PC h)) (.slice none 0 0) [] W := ⟨World.ownsRow_nil _ _ _ _, fun j hj => by simp at hj⟩

theorem LPr.keep {h lo : Nat} {I : List (PC h)} {v : Value} {xs : List Value} {W W' : World} (L : LPr lo I v xs W) (hw : ∀ g, g < W.heap.size → lo ≤ g → W'.heap[g]? = W.heap[g]?) : LPr lo I v xs W' := by
  refine ⟨⟨L.own.1, ?_⟩, fun j hj => PQ.keep (fun g hg hq => hw g hg hq.1) (fun g _ hq => hq) (L.it j hj)⟩
  rcases L.own.2 with e | ⟨g, cap, cur, e, h1, h2, h3⟩
  · exact .inl e
  · exact .inr ⟨g, cap, cur, e, h1, (hw g (Array.getElem?_eq_some_iff.1 h2).1 h1).trans h2, h3⟩

theorem LPr.snoc {h lo : Nat} {I : List (PC h)} {v : Value} {xs : List Value} {wr w2 w9 : World} {p : PC h} {d0 d1 d2 d3 d4 d5 d6 : Value} {o : Obj} {g cap : Nat} (L : LPr lo I v xs wr) (hlo : lo ≤ wr.heap.size) (hs2 : wr.heap.size ≤ w2.heap.size) (hw : ∀ b, b < wr.heap.size → lo ≤ b → w2.heap[b]? = wr.heap[b]?) (hd : PQ (fun b => wr.heap.size ≤ b) w2 p [d0, d1, d2, d3, d4, d5, d6])
    (hown : w9.ownsRow lo 48 7 (.slice (some ⟨g, 0, none⟩) (I.length + 1) cap) (I.length + 1) (xs ++ [d0, d1, d2, d3, d4, d5, d6])) (hgrow : (w2.alloc o).grownBy w9 v.ownBlock) (hat : v.ownBlock = some g ∨ g = w2.heap.size + 1) :
    LPr lo (I ++ [p]) (.slice (some ⟨g, 0, none⟩) (I.length + 1) cap) (xs ++ [d0, d1, d2, d3, d4, d5, d6]) w9 := by
  have hlen := L.own.1
  have vlt : ∀ b, v.ownBlock = some b → lo ≤ b ∧ b < wr.heap.size := fun b hb => L.own.lt b hb
  refine ⟨by rw [List.length_append]; exact hown, fun j hj => ?_⟩
  rw [List.length_append, List.length_singleton] at hj
  by_cases e : j = I.length
  · subst e
    rw [seven_new hlen rfl, List.getElem_append_right (Nat.le_refl _)]
    simp only [Nat.sub_self, List.getElem_cons_zero]
    refine PQ.keep (w := w2) (fun b hb hq => ?_) (fun b hb hq => ⟨by omega, fun e => ?_⟩) hd
    · rw [hgrow.block b (by simp; omega) (fun e => by have := (vlt b e.symm).2; omega)]
      exact heap_alloc_old _ _ hb
    · have e' : g = b := by simpa [Value.ownBlock] using e
      rcases hat with h1 | h1
      · have := (vlt g h1).2; omega
      · omega
  · rw [seven_old hlen (by omega), List.getElem_append_left (by omega)]
    refine PQ.keep (w := wr) (fun b hb hq => ?_) (fun b hb hq => ⟨hq.1, fun e => ?_⟩) (L.it j (by omega))
    · rw [hgrow.block b (by simp; omega) (fun e => hq.2 e.symm), heap_alloc_old _ _ (by omega)]
      exact hw b hb hq.1
    · have e' : g = b := by simpa [Value.ownBlock] using e
      rcases hat with h1 | h1
      · exact hq.2 (by rw [h1, e'])
      · omega

theorem LPr.fin {h lo : Nat} {I : List (PC h)} {v : Value} {xs : List Value} {wr : World} (L : LPr lo I v xs wr) : RowD wr (PCell wr) v I := by
  have hlen := L.own.1
  rcases L.own.2 with ⟨rfl, h0⟩ | ⟨g, cap, cur, rfl, h1, h2, h3, h4, h5, h6⟩
  · exact ⟨none, 0, by rw [h0], by omega, by decide, .inl h0⟩
  · refine ⟨some ⟨g, 0, none⟩, cap, rfl, h3, by unfold maxLen at h4; omega, .inr ⟨g, 0, rfl, fun i hi => ⟨seven xs i, ?_, fun j hj => ?_, ?_⟩⟩⟩
    · unfold seven
      rw [List.length_take, List.length_drop]
      omega
    · rw [cell_of_row wr g _ cur _ _ h2, ← Array.getElem?_toList, Nat.zero_add]
      unfold seven
      rw [List.getElem?_take, if_pos hj, List.getElem?_drop]
      have := congrArg (fun l : List Value => l[i * 7 + j]?) h6
      simp only [List.getElem?_take] at this
      rw [if_pos (by omega)] at this
      exact this
    · exact (L.it i hi).cell

/-- Behind an append, beside a proto's variable. -/
theorem pap_post {w0 wa W w9 : World} {rb P : Nat} {st : Option (List Nat × Nat)} {c0 c1 c2 c3 c4 c5 c6 : Value} {b : Option Nat} {o : Obj} (F : Fr (fun j => j = rb) wa W) (hd : PBx W P c0 c1 c2 c3 c4 c5 c6) (hr : RfO w0 W rb st) (hb : ∀ k, b = some k → P + 1 ≤ k) (hgrow : (W.alloc o).grownBy w9 b) (hw : wa.heap.size ≤ P) (hrb : rb < P) :
    Fr (fun j => j = rb) wa w9 ∧ PBx w9 P c0 c1 c2 c3 c4 c5 c6 ∧ RfO w0 w9 rb st :=
  ⟨(F.alloc o).gr hgrow hb (by omega), PBx.gr (lo := P + 1) (hd.al o) hgrow hb (by omega), (hr.mono (up_alloc W o)).gr hgrow hb (by omega)⟩

/-- Four bytes that were taken. -/
theorem take4 {w W : World} {v : Value} {l : List Nat} (h : BL w v (l.take 4)) (h4 : l.take 4 = [84, 65, 78, 68]) (u : Up w W) : ∃ g off cap, v = .slice (some ⟨g, off, none⟩) 4 cap ∧ W.cell? ⟨g, off, none⟩ = some (.int .u8 84) ∧ W.cell? ⟨g, off + 1, none⟩ = some (.int .u8 65) ∧ W.cell? ⟨g, off + 2, none⟩ = some (.int .u8 78) ∧ W.cell? ⟨g, off + 3, none⟩ = some (.int .u8 68) := by
  rw [h4] at h
  obtain ⟨ao, cap, e, h1, h2, h3⟩ := h.up u
  rcases h3 with ⟨rfl, rfl⟩ | ⟨g, off, rfl, hc⟩
  · simp at h1
  · exact ⟨g, off, cap, e, hc 0 (by decide), hc 1 (by decide), hc 2 (by decide), hc 3 (by decide)⟩

theorem rfo_start {w0 w : World} {rb : Nat} {l : List Nat} (h : RfS w0 w rb l false 20000) (h8 : By8 l) (hl : l.length ≤ 100000000) : RfO w0 w rb (some (l, 20000)) := by
  refine ⟨?_, h8, hl, Nat.le_refl _⟩
  have e : ((20000 : Nat) : Int) = 20000 := by decide
  rw [e]
  exact h

theorem kb_app {w7 wq w4 w9 : World} {B rb : Nat} {b : Option Nat} {o : Obj} (h : Kb B w7 wq) (F : Fr (fun j => j = rb) wq.drew w4) (hg : (w4.alloc o).grownBy w9 b) (hb : ∀ k, b = some k → w7.heap.size ≤ k) (hrb : rb < B) : Kb B w7 w9 := by
  have e : wq.drew.heap.size = wq.heap.size := rfl
  have h1 := F.size
  have h2 := hg.size
  simp at h2
  refine ⟨by have := h.1; omega, fun k hk hB => ?_⟩
  have hk4 : k < w4.heap.size := by have := h.1; omega
  rw [hg.block k (by simp; omega) (fun e2 => by have := hb k e2.symm; omega), heap_alloc_old _ _ hk4, F.block k (by have := h.1; omega) (by show k ≠ rb; omega)]
  exact h.2 k hk hB

/-- One more, if it was read. -/
def nI {α : Type} (I : List α) (o : Option (α × List Nat × Nat)) : List α := match o with
  | none => []
  | some (x, _, _) => I ++ [x]

theorem rowP_next {α : Type} {f : List Nat → Nat → Option (α × List Nat × Nat)} {n : Nat} {xs : List α} {l : List Nat} {q : Nat} : moreP xs (ogP (rdRowP f (n + 1)) (some (l, q))) = moreP (nI xs (f l q)) (ogP (rdRowP f n) (ost (f l q))) := by
  cases ho : f l q with
  | none =>
    simp only [ogP, rdRowP, ho, ost]
    rfl
  | some y =>
    obtain ⟨x, m, q'⟩ := y
    rw [rowP_step (x := x) (by rw [ho]; exact ov_some), ho]
    rfl

theorem rowP_og0 {α : Type} {f : List Nat → Nat → Option (α × List Nat × Nat)} {xs : List α} {l : List Nat} {q : Nat} : moreP xs (ogP (rdRowP f 0) (some (l, q))) = some (xs, l, q) := by
  simp [ogP, rdRowP, moreP]

theorem onum_le {o : Option (List Nat × Nat)} {n : Nat} {x : List Nat × Nat} (h : ov (og rdNum o) n) (hx : ost (og rdNum o) = some x) : n ≤ 1099511627776 := by
  cases o with
  | none => cases hx
  | some y =>
    obtain ⟨l, q⟩ := y
    cases hn : rdNum l with
    | none =>
      simp [og, ost, hn] at hx
    | some z =>
      obtain ⟨k, m⟩ := z
      have := h k m q (by simp [og, hn])
      subst this
      exact rdNum_le hn

theorem Kb.of_fr {B rb : Nat} {a b : World} (F : Fr (fun j => j = rb) a b) (hrb : rb < B) : Kb B a b := ⟨F.size, fun k hk hB => F.block k hk (by show k ≠ rb; omega)⟩

/-- What was read, or something. -/
def gv {α : Type} (o : Option (α × List Nat × Nat)) (d : α) : α := match o with
  | none => d
  | some (x, _, _) => x

theorem ov_gv {α : Type} (o : Option (α × List Nat × Nat)) (d : α) : ov o (gv o d) := fun x m q h => by subst h; rfl

theorem og_some {α : Type} {f : List Nat → Option (α × List Nat)} {o : Option (List Nat × Nat)} {x : List Nat × Nat} (h : ost (og f o) = some x) : ∃ y, o = some y := by
  cases o with
  | none => cases h
  | some y => exact ⟨y, rfl⟩

theorem ogP_some {α : Type} {f : List Nat → Nat → Option (α × List Nat × Nat)} {o : Option (List Nat × Nat)} {x : List Nat × Nat} (h : ost (ogP f o) = some x) : ∃ y, o = some y := by
  cases o with
  | none => cases h
  | some y => exact ⟨y, rfl⟩

theorem ost_some {α : Type} {o : Option (α × List Nat × Nat)} {x : List Nat × Nat} (h : ost o = some x) : ∃ y, o = some (y, x.1, x.2) := by
  cases o with
  | none => cases h
  | some z =>
    obtain ⟨y, m, q⟩ := z
    cases h
    exact ⟨y, rfl⟩

/-- If all went well, all parts did. -/
theorem parts_some {h : Nat} {X5 X7 X9 : Option (Nat × List Nat × Nat)} {X6 : Option (List (Int × Int × Int) × List Nat × Nat)} {X8 : Option (List (Tr h) × List Nat × Nat)} {X10 : Option (List ByteArray × List Nat × Nat)} {n5 n7 n9 : Nat} {x : List Nat × Nat} (_e6 : X6 = og (rdRow rdIns n5) (ost X5)) (e7 : X7 = og rdNum (ost X6)) (e8 : X8 = ogP (rdRowP (lrDat h 100) n7) (ost X7)) (e9 : X9 = og rdNum (ost X8)) (e10 : X10 = og (rdRow rdTxt n9) (ost X9)) (hx : ost X10 = some x) :
    (∃ a m q, X6 = some (a, m, q)) ∧ (∃ a m q, X8 = some (a, m, q)) ∧ ∃ a m q, X10 = some (a, m, q) := by
  obtain ⟨a10, h10⟩ := ost_some hx
  rw [e10] at hx
  obtain ⟨y9, h9⟩ := og_some hx
  rw [e9] at h9
  obtain ⟨y8, h8⟩ := og_some h9
  obtain ⟨a8, k8⟩ := ost_some h8
  rw [e8] at h8
  obtain ⟨y7, h7⟩ := ogP_some h8
  rw [e7] at h7
  obtain ⟨y6, h6⟩ := og_some h7
  obtain ⟨a6, k6⟩ := ost_some h6
  exact ⟨⟨a6, _, _, k6⟩, ⟨a8, _, _, k8⟩, ⟨a10, _, _, h10⟩⟩

/-- What all protos come to. -/
def finP {α : Type} (mo : Option (List α × List Nat × Nat)) : Option (List α) := match mo with
  | none => none
  | some (ps, k, _) => if k = [] then some ps else none

/-- A program, by its protos. -/
theorem prg_chain {h n : Nat} {l : List Nat} {X0 : Option (Nat × List Nat × Nat)} {mo : Option (List (PC h) × List Nat × Nat)} (h4 : l.take 4 = [84, 65, 78, 68]) (e0 : X0 = og rdNum (some (l.drop 4, 20000))) (v0 : ov X0 n) (em : mo = ogP (rdRowP (lrPro h) n) (ost X0)) :
    lrPrg h l 20000 = finP mo := by
  unfold lrPrg
  rw [if_pos h4]
  cases hn : rdNum (l.drop 4) with
  | none =>
    have z : X0 = none := by rw [e0]; simp [og, hn]
    rw [em, z]
    rfl
  | some y =>
    obtain ⟨k, m⟩ := y
    have z : X0 = some (k, m, 20000) := by rw [e0]; simp [og, hn]
    have := v0 k m 20000 z
    subst this
    rw [em, z]
    simp only [ost, ogP]
    cases rdRowP (lrPro h) n m 20000 with
    | none => rfl
    | some u =>
      obtain ⟨ps, k, r⟩ := u
      rfl

/-- A proto's parts in memory. -/
theorem pq_read {h : Nat} {wk w7 wn w9 wz : World} {B lo : Nat} {p : PC h} {aoc ak an : Option Addr} {jc capc jk ck jn cn : Nat} (hlo : lo ≤ B) (h7 : Kb B wk w7) (hk : Kb B w7 wn) (h9 : Kb B wn w9) (hz : Kb B w9 wz)
    (hc : p.code.length = jc ∧ CodeL wk aoc capc p.code ∧ AQ (fun b => B ≤ b) aoc p.code.length) (hd : p.ks.length = jk ∧ RowD wn (DatQ (fun b => B ≤ b) wn h) (.slice ak jk ck) p.ks ∧ VQ (fun b => B ≤ b) (.slice ak jk ck) p.ks.length) (hn : p.ns.length = jn ∧ NameL wz an cn p.ns ∧ AQ (fun b => B ≤ b) an p.ns.length) :
    PQ (fun b => lo ≤ b) wz p [.string p.nm, .int .i64 p.args, .int .i64 p.free, .bool p.rest, .slice aoc jc capc, .slice ak jk ck, .slice an jn cn] := by
  obtain ⟨rfl, c1, c2⟩ := hc
  obtain ⟨rfl, d1, d2⟩ := hd
  obtain ⟨rfl, n1, n2⟩ := hn
  have kc := ((h7.trans hk).trans h9).trans hz
  have kd := h9.trans hz
  refine ⟨aoc, capc, ak, ck, an, cn, rfl, codeQ_keep (fun k hk hq => kc.2 k hk hq) (fun k hq => by omega) ⟨c1, c2⟩, ⟨d1.blk d2 (fun k hk hq => kd.2 k hk hq) (fun _ _ q => q.keep (fun k hk hq => kd.2 k hk hq) (fun k _ hq => by omega)), d2.mono (fun k hk => by omega)⟩, nameQ_keep (fun k _ _ => rfl) (fun k hq => by omega) ⟨n1, n2⟩⟩

theorem pro_step {h n i lo B : Nat} {wo wk w7 wn w9 wm wy : World} {I : List (PC h)} {mm : List Nat} {q : Nat} {mo : Option (List (PC h) × List Nat × Nat)}
    {nm : ByteArray} {ar fr n5 n7 n9 : Nat} {rs : Bool} {X1 : Option (ByteArray × List Nat × Nat)} {X2 X4 X5 X7 X9 : Option (Nat × List Nat × Nat)} {X3 : Option (Bool × List Nat × Nat)} {X6 : Option (List (Int × Int × Int) × List Nat × Nat)} {X8 : Option (List (Tr h) × List Nat × Nat)} {X10 : Option (List ByteArray × List Nat × Nat)}
    {aoc ak an ao : Option Addr} {jc capc jk ck jn cn cap g capy : Nat} {xs : List Value} {o : Obj}
    (e1 : X1 = og rdTxt (some (mm, q))) (e2 : X2 = og rdNum (ost X1)) (e3 : X3 = og rdFlag (ost X2)) (e4 : X4 = og rdNum (ost X3)) (e5 : X5 = og rdNum (ost X4)) (e6 : X6 = og (rdRow rdIns n5) (ost X5)) (e7 : X7 = og rdNum (ost X6)) (e8 : X8 = ogP (rdRowP (lrDat h 100) n7) (ost X7)) (e9 : X9 = og rdNum (ost X8)) (e10 : X10 = og (rdRow rdTxt n9) (ost X9))
    (v1 : ov X1 nm) (v2 : ov X2 ar) (v3 : ov X3 rs) (v4 : ov X4 fr) (v5 : ov X5 n5) (v7 : ov X7 n7) (v9 : ov X9 n9)
    (hlo : wo.heap.size ≤ B) (h7 : Kb B wk w7) (hk : Kb B w7 wn) (h9 : Kb B wn w9) (hz : Kb B w9 wm)
    (hc : ∀ xs m q, X6 = some (xs, m, q) → xs.length = jc ∧ CodeL wk aoc capc xs ∧ AQ (fun b => B ≤ b) aoc xs.length)
    (hd : ∀ ks m q, X8 = some (ks, m, q) → ks.length = jk ∧ RowD wn (DatQ (fun b => B ≤ b) wn h) (.slice ak jk ck) ks ∧ VQ (fun b => B ≤ b) (.slice ak jk ck) ks.length)
    (hn : ∀ ns m q, X10 = some (ns, m, q) → ns.length = jn ∧ NameL wm an cn ns ∧ AQ (fun b => B ≤ b) an ns.length)
    (L : LPr lo I (.slice ao i cap) xs wo) (hI : I.length = i) (hlw : lo ≤ wo.heap.size) (hs : wo.heap.size ≤ wm.heap.size) (hw : ∀ b, b < wo.heap.size → lo ≤ b → wm.heap[b]? = wo.heap[b]?)
    (hown : wy.ownsRow lo 48 7 (.slice (some ⟨g, 0, none⟩) (i + 1) capy) (i + 1) (xs ++ [.string nm, .int .i64 (ar : Int), .int .i64 (fr : Int), .bool rs, .slice aoc jc capc, .slice ak jk ck, .slice an jn cn])) (hgrow : (wm.alloc o).grownBy wy (Value.slice ao i cap).ownBlock) (hat : (Value.slice ao i cap).ownBlock = some g ∨ g = wm.heap.size + 1)
    (hmo : mo = moreP I (ogP (rdRowP (lrPro h) (n - (i + 1) + 1)) (some (mm, q)))) :
    (∀ x, ost X10 = some x → (nI I (lrPro h mm q)).length = i + 1 ∧ LPr lo (nI I (lrPro h mm q)) (.slice (some ⟨g, 0, none⟩) (i + 1) capy) (xs ++ [.string nm, .int .i64 (ar : Int), .int .i64 (fr : Int), .bool rs, .slice aoc jc capc, .slice ak jk ck, .slice an jn cn]) wy) ∧ mo = moreP (nI I (lrPro h mm q)) (ogP (rdRowP (lrPro h) (n - (i + 1))) (ost X10)) := by
  obtain ⟨c1, c2⟩ := pro_chain e1 e2 e3 e4 e5 e6 e7 e8 e9 e10 v1 v2 v3 v4 v5 (ov_gv X6 []) v7 (ov_gv X8 []) v9 (ov_gv X10 [])
  have c1' : ov (lrPro h mm q) _ := c1
  have c2' : ost (lrPro h mm q) = ost X10 := c2
  refine ⟨fun x hx => ?_, by rw [hmo, rowP_next, c2']⟩
  obtain ⟨⟨a6, m6, q6, h6⟩, ⟨a8, m8, q8, h8⟩, a10, m10, q10, h10⟩ := parts_some e6 e7 e8 e9 e10 hx
  rw [← c2'] at hx
  obtain ⟨p, hp⟩ := ost_some hx
  have hpe := c1' _ _ _ hp
  rw [h6, h8, h10] at hpe
  have hpe2 : (⟨nm, (ar : Int), (fr : Int), rs, a6, a8, a10⟩ : PC h) = p := hpe
  subst hpe2
  rw [hp]
  have hq := pq_read (p := (⟨nm, (ar : Int), (fr : Int), rs, a6, a8, a10⟩ : PC h)) hlo h7 hk h9 hz (hc _ _ _ h6) (hd _ _ _ h8) (hn _ _ _ h10)
  subst hI
  refine ⟨by simp [nI], LPr.snoc L hlw hs hw hq hown hgrow hat⟩

end Go.Proofs.Ytilcigjhogcjkaa
