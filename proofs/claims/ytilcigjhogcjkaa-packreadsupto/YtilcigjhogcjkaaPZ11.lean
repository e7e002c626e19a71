/-
  What is proved here: the document's reader of programs as plain mathematics (it looks at each part as it comes, and asks what is right behind it): it reads whatever the strict one reads, and what it reads is right just if the strict one reads it. what the document's reader of data has made so far; no walk. the document's datum (package tandemref10), kind by kind, given those within it.
-/
import Derived.Test.YtilcigjhogcjkaaPZ8
import Derived.Test.YtilcigjhogcjkaaPZ10
namespace Go.Proofs.Ytilcigjhogcjkaa
open Go Go.RowKit

def lrDta {α : Type} (f : List Nat → Nat → Option (α × List Nat × Nat)) (l : List Nat) (p : Nat) : Option (List α × List Nat × Nat) := match rdNum l with
  | none => none
  | some (n, m) => rdRowP f n m p

def lrRst {α : Type} (f : List Nat → Nat → Option (α × List Nat × Nat)) (l : List Nat) (p : Nat) : Option (List α × List Nat × Nat) := match rdNum l with
  | none => none
  | some (n, m) => if n = 0 then some ([], m, p) else if n = 1 then (match f m p with
      | none => none
      | some (d, k, q) => some ([d], k, q)) else none

def lrFld {h : Nat} (f : List Nat → Nat → Option (Tr h × List Nat × Nat)) (k : Nat) (l : List Nat) (p : Nat) : Option (Tr (h + 1) × List Nat × Nat) :=
  if k = 1 then (match rdMag l with | none => none | some ((b, L), m) => some (((1 : Int), (0 : Int), b, L, ⟨#[]⟩, [], []), m, p))
  else if k = 2 ∨ k = 3 ∨ k = 9 then (match rdSgn l with | none => none | some (n, m) => some (((k : Int), n, false, [], ⟨#[]⟩, [], []), m, p))
  else if k = 4 then (match rdTxt l with | none => none | some (t, m) => some (((4 : Int), (0 : Int), false, [], t, [], []), m, p))
  else if k = 5 then (match rdTxt l with | none => none | some (t, m) => match rdSgn m with | none => none | some (n, m') => some (((5 : Int), n, false, [], t, [], []), m', p))
  else if k = 6 then (match lrDta f l p with | none => none | some (I, m, q) => match lrRst f m q with | none => none | some (R, m', q') => some (((6 : Int), (0 : Int), false, [], ⟨#[]⟩, I, R), m', q'))
  else if k = 7 then (match lrDta f l p with | none => none | some (I, m, q) => some (((7 : Int), (0 : Int), false, [], ⟨#[]⟩, I, []), m, q))
  else if k = 8 then some (((8 : Int), (0 : Int), false, [], ⟨#[]⟩, [], []), l, p) else none

/-- A datum, at a depth: each spends one part. -/
def lrDat : (h : Nat) → Nat → List Nat → Nat → Option (Tr h × List Nat × Nat)
  | 0, _, _, _ => none
  | _ + 1, 0, _, _ => none
  | h + 1, dp + 1, l, p => if p = 0 then none else match rdNum l with
    | none => none
    | some (k, m) => lrFld (lrDat h dp) k m (p - 1)

def lrPro (h : Nat) (l : List Nat) (p : Nat) : Option (PC h × List Nat × Nat) := match rdTxt l with
  | none => none
  | some (nm, l1) => match rdNum l1 with
    | none => none
    | some (ar, l2) => match rdFlag l2 with
      | none => none
      | some (rs, l3) => match rdNum l3 with
        | none => none
        | some (fr, l4) => match rdNum l4 with
          | none => none
          | some (n, l5) => match rdRow rdIns n l5 with
            | none => none
            | some (cd, l6) => match lrDta (lrDat h 100) l6 p with
              | none => none
              | some (ks, l7, q) => match rdNum l7 with
                | none => none
                | some (n2, l8) => match rdRow rdTxt n2 l8 with
                  | none => none
                  | some (ns, l9) => some (⟨nm, (ar : Int), (fr : Int), rs, cd, ks, ns⟩, l9, q)

def lrPrg (h : Nat) (l : List Nat) (p : Nat) : Option (List (PC h)) := if l.take 4 = [84, 65, 78, 68] then (match rdNum (l.drop 4) with
  | none => none
  | some (n, m) => match rdRowP (lrPro h) n m p with
    | none => none
    | some (ps, k, _) => if k = [] then some ps else none) else none

theorem rdCnt_num {k : Nat} {l m : List Nat} {n : Nat} (h : rdCnt k l = some (n, m)) : rdNum l = some (n, m) := by
  unfold rdCnt at h
  split at h
  · cases h
  · rename_i hn
    split at h
    · cases h
      exact hn
    · cases h

theorem rdNum_flag {l m : List Nat} {b : Bool} (h : rdFlag l = some (b, m)) : rdNum l = some (if b = true then 1 else 0, m) := by
  have e := rdFlag_back h
  subst e
  cases b
  · exact rdNum_numB (v := 0) (by decide) m
  · exact rdNum_numB (v := 1) (by decide) m

/-- With more parts to spend it reads the same, and keeps what is more. -/
def ShiftP {α : Type} (g : List Nat → Nat → Option (α × List Nat × Nat)) : Prop := ∀ l p x m q c, g l p = some (x, m, q) → g l (p + c) = some (x, m, q + c)

theorem rdRowP_shift {α : Type} {g : List Nat → Nat → Option (α × List Nat × Nat)} (hg : ShiftP g) : ∀ n, ShiftP (rdRowP g n)
  | 0 => fun l p x m q c h => by
    rw [rdRowP_zero] at h ⊢
    cases h
    rfl
  | n + 1 => fun l p x m q c h => by
    simp only [rdRowP] at h ⊢
    split at h
    · cases h
    · rename_i y m1 q1 h1
      split at h
      · cases h
      · rename_i ys k r h2
        cases h
        rw [hg l p y m1 q1 c h1]
        simp only
        rw [rdRowP_shift hg n m1 q1 ys m q c h2]

theorem lrDta_shift {α : Type} {g : List Nat → Nat → Option (α × List Nat × Nat)} (hg : ShiftP g) : ShiftP (lrDta g) := fun l p x m q c h => by
  unfold lrDta at h ⊢
  split at h
  · cases h
  · exact rdRowP_shift hg _ _ _ _ _ _ c h

theorem lrRst_shift {α : Type} {g : List Nat → Nat → Option (α × List Nat × Nat)} (hg : ShiftP g) : ShiftP (lrRst g) := fun l p x m q c h => by
  unfold lrRst at h ⊢
  split at h
  · cases h
  · split at h
    · rename_i h0
      cases h
      rw [if_pos h0]
    · rename_i h0
      rw [if_neg h0]
      split at h
      · rename_i h1
        rw [if_pos h1]
        split at h
        · cases h
        · rename_i d k q1 h2
          cases h
          rw [hg _ _ _ _ _ c h2]
      · cases h

theorem lrFld_shift {h : Nat} {f : List Nat → Nat → Option (Tr h × List Nat × Nat)} (hf : ShiftP f) (k : Nat) : ShiftP (lrFld f k) := fun l p x m q c hx => by
  unfold lrFld at hx ⊢
  split at hx
  · rename_i h1
    rw [if_pos h1]
    split at hx
    · cases hx
    · cases hx
      rfl
  · rename_i h1
    rw [if_neg h1]
    split at hx
    · rename_i h2
      rw [if_pos h2]
      split at hx
      · cases hx
      · cases hx
        rfl
    · rename_i h2
      rw [if_neg h2]
      split at hx
      · rename_i h3
        rw [if_pos h3]
        split at hx
        · cases hx
        · cases hx
          rfl
      · rename_i h3
        rw [if_neg h3]
        split at hx
        · rename_i h4
          rw [if_pos h4]
          split at hx
          · cases hx
          · split at hx
            · cases hx
            · cases hx
              rfl
        · rename_i h4
          rw [if_neg h4]
          split at hx
          · rename_i h5
            rw [if_pos h5]
            split at hx
            · cases hx
            · rename_i I m1 q1 hI
              split at hx
              · cases hx
              · rename_i R m2 q2 hR
                cases hx
                rw [lrDta_shift hf _ _ _ _ _ c hI]
                simp only
                rw [lrRst_shift hf _ _ _ _ _ c hR]
          · rename_i h5
            rw [if_neg h5]
            split at hx
            · rename_i h6
              rw [if_pos h6]
              split at hx
              · cases hx
              · rename_i I m1 q1 hI
                cases hx
                rw [lrDta_shift hf _ _ _ _ _ c hI]
            · rename_i h6
              rw [if_neg h6]
              split at hx
              · rename_i h7
                rw [if_pos h7]
                cases hx
                rfl
              · cases hx

theorem lrDat_shift : ∀ (h dp : Nat), ShiftP (lrDat h dp)
  | 0, _ => fun l p x m q c hx => by simp [lrDat] at hx
  | _ + 1, 0 => fun l p x m q c hx => by simp [lrDat] at hx
  | h + 1, dp + 1 => fun l p x m q c hx => by
    simp only [lrDat] at hx ⊢
    split at hx
    · cases hx
    · rename_i hp
      rw [if_neg (by omega)]
      split at hx
      · cases hx
      · have := lrFld_shift (lrDat_shift h dp) _ _ _ _ _ _ c hx
        rw [show p + c - 1 = p - 1 + c by omega]
        exact this

theorem lrPro_shift (h : Nat) : ShiftP (lrPro h) := fun l p x m q c hx => by
  unfold lrPro at hx ⊢
  split at hx
  · cases hx
  · split at hx
    · cases hx
    · split at hx
      · cases hx
      · split at hx
        · cases hx
        · split at hx
          · cases hx
          · split at hx
            · cases hx
            · split at hx
              · cases hx
              · rename_i ks l7 q7 h7
                split at hx
                · cases hx
                · rename_i n2 l8 h8
                  split at hx
                  · cases hx
                  · rename_i ns l9 h9
                    cases hx
                    rw [lrDta_shift (lrDat_shift h 100) _ _ _ _ _ c h7]
                    simp only [h8, h9]

/-- What the one reads with some parts, the other reads with d more. -/
def UpD {α : Type} (d : Nat) (f g : List Nat → Nat → Option (α × List Nat × Nat)) : Prop := ∀ l p x m q, f l p = some (x, m, q) → g l (p + d) = some (x, m, q)

theorem rdRowP_up {α : Type} {f g : List Nat → Nat → Option (α × List Nat × Nat)} {d : Nat} (hu : UpD d f g) (hg : ShiftP g) : ∀ n, UpD (n * d) (rdRowP f n) (rdRowP g n)
  | 0 => fun l p x m q h => by
    rw [rdRowP_zero] at h ⊢
    cases h
    simp
  | n + 1 => fun l p x m q h => by
    simp only [rdRowP] at h ⊢
    split at h
    · cases h
    · rename_i y m1 q1 h1
      split at h
      · cases h
      · rename_i ys k r h2
        cases h
        have a1 := hg _ _ _ _ _ (n * d) (hu l p y m1 q1 h1)
        rw [show p + (n + 1) * d = p + d + n * d by rw [Nat.add_mul]; omega, a1]
        simp only
        rw [rdRowP_up hu hg n m1 q1 ys m q h2]

theorem lrDta_up {α : Type} {f g : List Nat → Nat → Option (α × List Nat × Nat)} (hu : UpD 1 f g) (hg : ShiftP g) : UpD 0 (rdDta f) (lrDta g) := fun l p x m q h => by
  unfold rdDta at h
  unfold lrDta
  split at h
  · cases h
  · rename_i n m1 h1
    rw [rdCnt_num h1]
    simp only
    split at h
    · rename_i hn
      have := rdRowP_up hu hg n m1 (p - n) x m q h
      rw [show p + 0 = p - n + n * 1 by omega]
      exact this
    · cases h

theorem lrRst_up {α : Type} {f g : List Nat → Nat → Option (α × List Nat × Nat)} (hu : UpD 1 f g) : UpD 0 (rdRst f) (lrRst g) := fun l p x m q h => by
  unfold rdRst at h
  unfold lrRst
  split at h
  · cases h
  · rename_i b m1 h1
    rw [rdNum_flag h1]
    simp only
    split at h
    · rename_i hb
      rw [if_pos hb, if_neg (by decide), if_pos rfl]
      split at h
      · rename_i hp
        split at h
        · cases h
        · rename_i d k q1 h2
          cases h
          have := hu _ _ _ _ _ h2
          rw [show p + 0 = p - 1 + 1 by omega, this]
      · cases h
    · rename_i hb
      rw [if_neg hb, if_pos rfl]
      cases h
      rfl

theorem lrDat_up : ∀ (h dp : Nat), UpD 1 (rdDat h dp) (lrDat h dp)
  | 0, _ => fun l p x m q hx => by simp [rdDat] at hx
  | _ + 1, 0 => fun l p x m q hx => by simp [rdDat] at hx
  | h + 1, dp + 1 => fun l p x m q hx => by
    have ih := lrDat_up h dp
    have is := lrDat_shift h dp
    simp only [rdDat] at hx
    simp only [lrDat]
    rw [if_neg (by omega), show p + 1 - 1 = p by omega]
    split at hx
    · cases hx
    · rename_i k l1 hk
      rw [hk]
      simp only
      split at hx
      · cases hx
      · rename_i d m' q' hd
        split at hx
        · rename_i hfit
          cases hx
          unfold rdFld at hd
          unfold lrFld
          split at hd
          · rename_i h1
            rw [if_pos h1]
            exact hd
          · rename_i h1
            rw [if_neg h1]
            split at hd
            · rename_i h2
              rw [if_pos h2]
              exact hd
            · rename_i h2
              rw [if_neg h2]
              split at hd
              · rename_i h3
                rw [if_pos h3]
                exact hd
              · rename_i h3
                rw [if_neg h3]
                split at hd
                · rename_i h4
                  rw [if_pos h4]
                  exact hd
                · rename_i h4
                  rw [if_neg h4]
                  split at hd
                  · rename_i h5
                    rw [if_pos h5]
                    split at hd
                    · cases hd
                    · rename_i I m1 q1 hI
                      split at hd
                      · cases hd
                      · rename_i R m2 q2 hR
                        cases hd
                        have a1 := lrDta_up ih is _ _ _ _ _ hI
                        have a2 := lrRst_up ih _ _ _ _ _ hR
                        rw [Nat.add_zero] at a1 a2
                        rw [a1]
                        simp only
                        rw [a2]
                  · rename_i h5
                    rw [if_neg h5]
                    split at hd
                    · rename_i h6
                      rw [if_pos h6]
                      split at hd
                      · cases hd
                      · rename_i I m1 q1 hI
                        cases hd
                        have a1 := lrDta_up ih is _ _ _ _ _ hI
                        rw [Nat.add_zero] at a1
                        rw [a1]
                    · rename_i h6
                      rw [if_neg h6]
                      cases hd
                      have h9 : (k : Int) ≤ 9 := by
                        simp only [fit1, Bool.and_eq_true, decide_eq_true_eq] at hfit
                        exact hfit.1.2
                      have h0 : (1 : Int) ≤ k := by
                        simp only [fit1, Bool.and_eq_true, decide_eq_true_eq] at hfit
                        exact hfit.1.1
                      have e : k = 8 := by omega
                      subst e
                      rfl
        · cases hx

theorem lrPro_up (h : Nat) : UpD 0 (rdPro h) (lrPro h) := fun l p x m q hx => by
  unfold rdPro at hx
  unfold lrPro
  rw [Nat.add_zero]
  split at hx
  · cases hx
  · rename_i h1
    split at hx
    · cases hx
    · rename_i h2
      split at hx
      · cases hx
      · rename_i h3
        split at hx
        · cases hx
        · rename_i h4
          split at hx
          · cases hx
          · rename_i h5
            split at hx
            · cases hx
            · rename_i h6
              split at hx
              · cases hx
              · rename_i ks l7 q7 h7
                have a7 := lrDta_up (lrDat_up h 100) (lrDat_shift h 100) _ _ _ _ _ h7
                rw [Nat.add_zero] at a7
                split at hx
                · cases hx
                · rename_i n2 l8 h8
                  split at hx
                  · cases hx
                  · rename_i ns l9 h9
                    simp only [h1, h2, h3, h4, rdCnt_num h5, h6, a7, rdCnt_num h8, h9]
                    exact hx

/-- What the strict one reads, the other reads. -/
theorem lr_of_rd {h p : Nat} {l : List Nat} {ps : List (PC h)} (hx : rdPrg h l p = some ps) : lrPrg h l p = some ps := by
  unfold rdPrg at hx
  unfold lrPrg
  split at hx
  · rename_i h4
    rw [if_pos h4]
    split at hx
    · cases hx
    · rename_i n m hn
      rw [rdCnt_num hn]
      simp only
      split at hx
      · cases hx
      · rename_i qs k r hr
        have := rdRowP_up (lrPro_up h) (lrPro_shift h) n m p qs k r hr
        rw [Nat.mul_zero, Nat.add_zero] at this
        rw [this]
        exact hx
  · cases hx

/-- What comes of the document's datum. -/
def okL {h : Nat} (w0 w : World) (rb B : Nat) (out : Option (Tr h × List Nat × Nat)) (e : Ending) (w' : World) : Prop :=
  ∃ (kk nn : Int) (bb : Bool) (m1 : Option Addr) (m2 m3 : Nat) (tt : ByteArray) (i1 : Option Addr) (i2 i3 : Nat) (r1 : Option Addr) (r2 r3 : Nat), e = .returned (.agg #[.int .i64 kk, .int .i64 nn, .bool bb, .slice m1 m2 m3, .string tt, .slice i1 i2 i3, .slice r1 r2 r3]) ∧ Fr (fun j => j = rb) w w' ∧ match out with
  | none => ∃ l q, RfS w0 w' rb l true q
  | some (tr, m, q) => DatQ (fun b => B ≤ b) w' h tr [.int .i64 kk, .int .i64 nn, .bool bb, .slice m1 m2 m3, .string tt, .slice i1 i2 i3, .slice r1 r2 r3] ∧ RfS w0 w' rb m false (q : Int)

def LDOK (h : Nat) : Prop := ∀ (w0 w : World) (rb p dp : Nat) (dep : Int) (l : List Nat), RfS w0 w rb l false (p : Int) → By8 l → l.length ≤ 100000000 → p ≤ 20000 → dp ≤ 100 → dp ≤ h → dep = 101 - (dp : Int) →
  Calls Try.prog 33 #[.pointer (some ⟨rb, 0, none⟩), .int .i64 dep] w fun e w' => okL w0 w rb w.heap.size (lrDat h dp l p) e w'

theorem okL.no {h : Nat} {w0 w : World} {rb B : Nat} {out : Option (Tr h × List Nat × Nat)} {e : Ending} {w' : World} (H : okL w0 w rb B out e w') (ho : out = none) :
    ∃ (kk nn : Int) (bb : Bool) (m1 : Option Addr) (m2 m3 : Nat) (tt : ByteArray) (i1 : Option Addr) (i2 i3 : Nat) (r1 : Option Addr) (r2 r3 : Nat), e = .returned (.agg #[.int .i64 kk, .int .i64 nn, .bool bb, .slice m1 m2 m3, .string tt, .slice i1 i2 i3, .slice r1 r2 r3]) ∧ LB w0 w rb w' := by
  subst ho
  obtain ⟨kk, nn, bb, m1, m2, m3, tt, i1, i2, i3, r1, r2, r3, he, hF, hb⟩ := H
  exact ⟨kk, nn, bb, m1, m2, m3, tt, i1, i2, i3, r1, r2, r3, he, hF, hb⟩

theorem okL.yes {h : Nat} {w0 w : World} {rb B : Nat} {out : Option (Tr h × List Nat × Nat)} {e : Ending} {w' : World} {tr : Tr h} {m : List Nat} {q : Nat} (H : okL w0 w rb B out e w') (ho : out = some (tr, m, q)) :
    ∃ (kk nn : Int) (bb : Bool) (m1 : Option Addr) (m2 m3 : Nat) (tt : ByteArray) (i1 : Option Addr) (i2 i3 : Nat) (r1 : Option Addr) (r2 r3 : Nat), e = .returned (.agg #[.int .i64 kk, .int .i64 nn, .bool bb, .slice m1 m2 m3, .string tt, .slice i1 i2 i3, .slice r1 r2 r3]) ∧ DatQ (fun b => B ≤ b) w' h tr [.int .i64 kk, .int .i64 nn, .bool bb, .slice m1 m2 m3, .string tt, .slice i1 i2 i3, .slice r1 r2 r3] ∧ LY w0 w rb m (q : Int) w' := by
  subst ho
  obtain ⟨kk, nn, bb, m1, m2, m3, tt, i1, i2, i3, r1, r2, r3, he, hF, hb⟩ := H
  exact ⟨kk, nn, bb, m1, m2, m3, tt, i1, i2, i3, r1, r2, r3, he, hb.1, hF, hb.2⟩

theorem okL.mkno {h : Nat} {w0 w : World} {rb B : Nat} {out : Option (Tr h × List Nat × Nat)} {e : Ending} {w' : World} (ho : out = none) (hB : LB w0 w rb w') {kk nn : Int} {bb : Bool} {m1 : Option Addr} {m2 m3 : Nat} {tt : ByteArray} {i1 : Option Addr} {i2 i3 : Nat} {r1 : Option Addr} {r2 r3 : Nat} (he : e = .returned (.agg #[.int .i64 kk, .int .i64 nn, .bool bb, .slice m1 m2 m3, .string tt, .slice i1 i2 i3, .slice r1 r2 r3])) : okL w0 w rb B out e w' := by
  subst ho
  exact ⟨kk, nn, bb, m1, m2, m3, tt, i1, i2, i3, r1, r2, r3, he, hB.1, hB.2⟩

theorem okL.mkyes {h : Nat} {w0 w : World} {rb B : Nat} {out : Option (Tr h × List Nat × Nat)} {e : Ending} {w' : World} {tr : Tr h} {m : List Nat} {q : Nat} (ho : out = some (tr, m, q)) {kk nn : Int} {bb : Bool} {m1 : Option Addr} {m2 m3 : Nat} {tt : ByteArray} {i1 : Option Addr} {i2 i3 : Nat} {r1 : Option Addr} {r2 r3 : Nat} (he : e = .returned (.agg #[.int .i64 kk, .int .i64 nn, .bool bb, .slice m1 m2 m3, .string tt, .slice i1 i2 i3, .slice r1 r2 r3]))
    (hd : DatQ (fun b => B ≤ b) w' h tr [.int .i64 kk, .int .i64 nn, .bool bb, .slice m1 m2 m3, .string tt, .slice i1 i2 i3, .slice r1 r2 r3]) (hY : LY w0 w rb m (q : Int) w') : okL w0 w rb B out e w' := by
  subst ho
  exact ⟨kk, nn, bb, m1, m2, m3, tt, i1, i2, i3, r1, r2, r3, he, hY.1, hd, hY.2⟩

/-- A variable is copied to another one: what a walk wants of it. -/
theorem DBx.copyF {w : World} {D R : Nat} {c0 c1 c2 c3 c4 c5 c6 z0 z1 z2 z3 z4 z5 z6 : Value} (hD : DBx w D c0 c1 c2 c3 c4 c5 c6) (hR : DBx w R z0 z1 z2 z3 z4 z5 z6) :
    (w.cell? ⟨D, 0, none⟩ = some c0 ∧ w.cell? ⟨D, 1, none⟩ = some c1 ∧ w.cell? ⟨D, 2, none⟩ = some c2 ∧ w.cell? ⟨D, 3, none⟩ = some c3 ∧ w.cell? ⟨D, 4, none⟩ = some c4 ∧ w.cell? ⟨D, 5, none⟩ = some c5 ∧ w.cell? ⟨D, 6, none⟩ = some c6) ∧
    (w.frozen? ⟨R, 0, none⟩ = false ∧ w.cell? ⟨R, 0, none⟩ = some z0) ∧
    ((w.setCell ⟨R, 0, none⟩ c0).frozen? ⟨R, 1, none⟩ = false ∧ (w.setCell ⟨R, 0, none⟩ c0).cell? ⟨R, 1, none⟩ = some z1) ∧
    (((w.setCell ⟨R, 0, none⟩ c0).setCell ⟨R, 1, none⟩ c1).frozen? ⟨R, 2, none⟩ = false ∧ ((w.setCell ⟨R, 0, none⟩ c0).setCell ⟨R, 1, none⟩ c1).cell? ⟨R, 2, none⟩ = some z2) ∧
    ((((w.setCell ⟨R, 0, none⟩ c0).setCell ⟨R, 1, none⟩ c1).setCell ⟨R, 2, none⟩ c2).frozen? ⟨R, 3, none⟩ = false ∧ (((w.setCell ⟨R, 0, none⟩ c0).setCell ⟨R, 1, none⟩ c1).setCell ⟨R, 2, none⟩ c2).cell? ⟨R, 3, none⟩ = some z3) ∧
    (((((w.setCell ⟨R, 0, none⟩ c0).setCell ⟨R, 1, none⟩ c1).setCell ⟨R, 2, none⟩ c2).setCell ⟨R, 3, none⟩ c3).frozen? ⟨R, 4, none⟩ = false ∧ ((((w.setCell ⟨R, 0, none⟩ c0).setCell ⟨R, 1, none⟩ c1).setCell ⟨R, 2, none⟩ c2).setCell ⟨R, 3, none⟩ c3).cell? ⟨R, 4, none⟩ = some z4) ∧
    ((((((w.setCell ⟨R, 0, none⟩ c0).setCell ⟨R, 1, none⟩ c1).setCell ⟨R, 2, none⟩ c2).setCell ⟨R, 3, none⟩ c3).setCell ⟨R, 4, none⟩ c4).frozen? ⟨R, 5, none⟩ = false ∧ (((((w.setCell ⟨R, 0, none⟩ c0).setCell ⟨R, 1, none⟩ c1).setCell ⟨R, 2, none⟩ c2).setCell ⟨R, 3, none⟩ c3).setCell ⟨R, 4, none⟩ c4).cell? ⟨R, 5, none⟩ = some z5) ∧
    (((((((w.setCell ⟨R, 0, none⟩ c0).setCell ⟨R, 1, none⟩ c1).setCell ⟨R, 2, none⟩ c2).setCell ⟨R, 3, none⟩ c3).setCell ⟨R, 4, none⟩ c4).setCell ⟨R, 5, none⟩ c5).frozen? ⟨R, 6, none⟩ = false ∧ ((((((w.setCell ⟨R, 0, none⟩ c0).setCell ⟨R, 1, none⟩ c1).setCell ⟨R, 2, none⟩ c2).setCell ⟨R, 3, none⟩ c3).setCell ⟨R, 4, none⟩ c4).setCell ⟨R, 5, none⟩ c5).cell? ⟨R, 6, none⟩ = some z6) ∧
    ((((((((w.setCell ⟨R, 0, none⟩ c0).setCell ⟨R, 1, none⟩ c1).setCell ⟨R, 2, none⟩ c2).setCell ⟨R, 3, none⟩ c3).setCell ⟨R, 4, none⟩ c4).setCell ⟨R, 5, none⟩ c5).setCell ⟨R, 6, none⟩ c6).cell? ⟨R, 0, none⟩ = some c0 ∧ (((((((w.setCell ⟨R, 0, none⟩ c0).setCell ⟨R, 1, none⟩ c1).setCell ⟨R, 2, none⟩ c2).setCell ⟨R, 3, none⟩ c3).setCell ⟨R, 4, none⟩ c4).setCell ⟨R, 5, none⟩ c5).setCell ⟨R, 6, none⟩ c6).cell? ⟨R, 1, none⟩ = some c1 ∧ (((((((w.setCell ⟨R, 0, none⟩ c0).setCell ⟨R, 1, none⟩ c1).setCell ⟨R, 2, none⟩ c2).setCell ⟨R, 3, none⟩ c3).setCell ⟨R, 4, none⟩ c4).setCell ⟨R, 5, none⟩ c5).setCell ⟨R, 6, none⟩ c6).cell? ⟨R, 2, none⟩ = some c2 ∧ (((((((w.setCell ⟨R, 0, none⟩ c0).setCell ⟨R, 1, none⟩ c1).setCell ⟨R, 2, none⟩ c2).setCell ⟨R, 3, none⟩ c3).setCell ⟨R, 4, none⟩ c4).setCell ⟨R, 5, none⟩ c5).setCell ⟨R, 6, none⟩ c6).cell? ⟨R, 3, none⟩ = some c3 ∧ (((((((w.setCell ⟨R, 0, none⟩ c0).setCell ⟨R, 1, none⟩ c1).setCell ⟨R, 2, none⟩ c2).setCell ⟨R, 3, none⟩ c3).setCell ⟨R, 4, none⟩ c4).setCell ⟨R, 5, none⟩ c5).setCell ⟨R, 6, none⟩ c6).cell? ⟨R, 4, none⟩ = some c4 ∧ (((((((w.setCell ⟨R, 0, none⟩ c0).setCell ⟨R, 1, none⟩ c1).setCell ⟨R, 2, none⟩ c2).setCell ⟨R, 3, none⟩ c3).setCell ⟨R, 4, none⟩ c4).setCell ⟨R, 5, none⟩ c5).setCell ⟨R, 6, none⟩ c6).cell? ⟨R, 5, none⟩ = some c5 ∧ (((((((w.setCell ⟨R, 0, none⟩ c0).setCell ⟨R, 1, none⟩ c1).setCell ⟨R, 2, none⟩ c2).setCell ⟨R, 3, none⟩ c3).setCell ⟨R, 4, none⟩ c4).setCell ⟨R, 5, none⟩ c5).setCell ⟨R, 6, none⟩ c6).cell? ⟨R, 6, none⟩ = some c6) := by
  have S0 := hR.s0 c0
  have S1 := S0.s1 c1
  have S2 := S1.s2 c2
  have S3 := S2.s3 c3
  have S4 := S3.s4 c4
  have S5 := S4.s5 c5
  have S6 := S5.s6 c6
  exact ⟨⟨hD.k0, hD.k1, hD.k2, hD.k3, hD.k4, hD.k5, hD.k6⟩, ⟨hR.fz 0, hR.k0⟩, ⟨S0.fz 1, S0.k1⟩, ⟨S1.fz 2, S1.k2⟩, ⟨S2.fz 3, S2.k3⟩, ⟨S3.fz 4, S3.k4⟩, ⟨S4.fz 5, S4.k5⟩, ⟨S5.fz 6, S5.k6⟩, ⟨S6.k0, S6.k1, S6.k2, S6.k3, S6.k4, S6.k5, S6.k6⟩⟩

theorem RfS.setO {w0 w : World} {rb g i : Nat} {l : List Nat} {bad : Bool} {q : Int} {u : Value} (h : RfS w0 w rb l bad q) (hg : rb < g) : RfS w0 (w.setCell ⟨g, i, none⟩ u) rb l bad q := by
  obtain ⟨hU, hrb, v, hB, hR⟩ := h
  exact ⟨⟨hU.os, hU.tape, hU.output, by simpa [World.setCell] using hU.size, fun k hk => (heap_setCell_other _ _ _ _ (by show k ≠ g; omega)).trans (hU.block k hk)⟩, hrb, v, hB, (heap_setCell_other _ _ _ _ (by show rb ≠ g; omega)).trans hR⟩

theorem RfS.set7 {w0 w : World} {rb g : Nat} {l : List Nat} {bad : Bool} {q : Int} (h : RfS w0 w rb l bad q) (hB : rb < g) (c0 c1 c2 c3 c4 c5 c6 : Value) : RfS w0 (Go.Proofs.Ytilcigjhogcjkaa.set7 w g c0 c1 c2 c3 c4 c5 c6) rb l bad q := ((((((h.setO hB).setO hB).setO hB).setO hB).setO hB).setO hB).setO hB

/-- A row of one's own grows: nothing else turns. -/
theorem RfS.gr {w0 W w9 : World} {rb lo : Nat} {l : List Nat} {bad : Bool} {q : Int} {b : Option Nat} (h : RfS w0 W rb l bad q) (hg : W.grownBy w9 b) (hb : ∀ k, b = some k → lo ≤ k) (hrb : rb < lo) : RfS w0 w9 rb l bad q := by
  have hlt := h.lt
  obtain ⟨hU, hr, v, hB, hR⟩ := h
  exact ⟨hU.grown hg hU.size (fun k hk => by have := hb k hk; omega), hr, v, hB, (hg.block rb hlt (fun e => by have := hb rb e.symm; omega)).trans hR⟩

theorem DBx.gr {W w9 : World} {D lo : Nat} {c0 c1 c2 c3 c4 c5 c6 : Value} {b : Option Nat} (h : DBx W D c0 c1 c2 c3 c4 c5 c6) (hg : W.grownBy w9 b) (hb : ∀ k, b = some k → lo ≤ k) (hD : D < lo) : DBx w9 D c0 c1 c2 c3 c4 c5 c6 := (hg.block D h.lt (fun e => by have := hb D e.symm; omega)).trans h

theorem Fr.gr {S : Nat → Prop} {w W w9 : World} {lo : Nat} {b : Option Nat} (F : Fr S w W) (hg : W.grownBy w9 b) (hb : ∀ k, b = some k → lo ≤ k) (hw : w.heap.size ≤ lo) : Fr S w w9 := F.grow hg (fun k hk e => by have := hb k e; omega)

/-- A row of data of the call's own, in blocks from lo on. -/
structure LQ {h : Nat} (lo : Nat) (I : List (Tr h)) (v : Value) (xs : List Value) (W : World) : Prop where
  own : W.ownsRow lo 64 7 v I.length xs
  it : ∀ j (hj : j < I.length), DatQ (fun b => lo ≤ b ∧ v.ownBlock ≠ some b) W h I[j] (seven xs j)

theorem LQ.nil (h lo : Nat) (W : World) : LQ lo ([] : List (Tr h)) (.slice none 0 0) [] W := ⟨World.ownsRow_nil _ _ _ _, fun j hj => by simp at hj⟩

theorem LQ.keep {h lo : Nat} {I : List (Tr h)} {v : Value} {xs : List Value} {W W' : World} (L : LQ lo I v xs W) (hw : ∀ g, g < W.heap.size → lo ≤ g → W'.heap[g]? = W.heap[g]?) : LQ lo I v xs W' := by
  refine ⟨⟨L.own.1, ?_⟩, fun j hj => DatQ.keep (fun g hg hq => hw g hg hq.1) (fun g _ hq => hq) (L.it j hj)⟩
  rcases L.own.2 with e | ⟨g, cap, cur, e, h1, h2, h3⟩
  · exact .inl e
  · exact .inr ⟨g, cap, cur, e, h1, (hw g (Array.getElem?_eq_some_iff.1 h2).1 h1).trans h2, h3⟩

theorem LQ.fin {h lo : Nat} {I : List (Tr h)} {v : Value} {xs : List Value} {wr : World} (L : LQ lo I v xs wr) : RowD wr (DatQ (fun k => lo ≤ k) wr h) v I ∧ VQ (fun k => lo ≤ k) v I.length := by
  have hlen := L.own.1
  rcases L.own.2 with ⟨rfl, h0⟩ | ⟨g, cap, cur, rfl, h1, h2, h3, h4, h5, h6⟩
  · exact ⟨⟨none, 0, by rw [h0], by omega, by decide, .inl h0⟩, .inl h0⟩
  · refine ⟨⟨some ⟨g, 0, none⟩, cap, rfl, h3, by unfold maxLen at h4; omega, .inr ⟨g, 0, rfl, fun i hi => ⟨seven xs i, ?_, fun j hj => ?_, ?_⟩⟩⟩, .inr ⟨_, _, _, rfl, h1⟩⟩
    · unfold seven
      rw [List.length_take, List.length_drop]
      omega
    · rw [cell_of_row wr g _ cur _ _ h2, ← Array.getElem?_toList, Nat.zero_add]
      unfold seven
      rw [List.getElem?_take, if_pos hj, List.getElem?_drop]
      have := congrArg (fun l : List Value => l[i * 7 + j]?) h6
      simp only [List.getElem?_take] at this
      rw [if_pos (by omega)] at this
      exact this
    · exact DatQ.keep (w := wr) (fun _ _ _ => rfl) (fun _ _ hq => hq.1) (L.it i hi)

theorem LQ.snoc {h lo : Nat} {I : List (Tr h)} {v : Value} {xs : List Value} {wr w2 w9 : World} {tr : Tr h} {d0 d1 d2 d3 d4 d5 d6 : Value} {o : Obj} {g cap : Nat} (L : LQ lo I v xs wr) (hlo : lo ≤ wr.heap.size) (hs2 : wr.heap.size ≤ w2.heap.size) (hw : ∀ b, b < wr.heap.size → lo ≤ b → w2.heap[b]? = wr.heap[b]?) (hd : DatQ (fun b => wr.heap.size ≤ b) w2 h tr [d0, d1, d2, d3, d4, d5, d6])
    (hown : w9.ownsRow lo 64 7 (.slice (some ⟨g, 0, none⟩) (I.length + 1) cap) (I.length + 1) (xs ++ [d0, d1, d2, d3, d4, d5, d6])) (hgrow : (w2.alloc o).grownBy w9 v.ownBlock) (hat : v.ownBlock = some g ∨ g = w2.heap.size + 1) :
    LQ lo (I ++ [tr]) (.slice (some ⟨g, 0, none⟩) (I.length + 1) cap) (xs ++ [d0, d1, d2, d3, d4, d5, d6]) w9 := by
  have hlen := L.own.1
  have vlt : ∀ b, v.ownBlock = some b → lo ≤ b ∧ b < wr.heap.size := fun b hb => L.own.lt b hb
  refine ⟨by rw [List.length_append]; exact hown, fun j hj => ?_⟩
  rw [List.length_append, List.length_singleton] at hj
  by_cases e : j = I.length
  · subst e
    rw [seven_new hlen rfl, List.getElem_append_right (Nat.le_refl _)]
    simp only [Nat.sub_self, List.getElem_cons_zero]
    refine DatQ.keep (w := w2) (fun b hb hq => ?_) (fun b hb hq => ⟨by omega, fun e => ?_⟩) hd
    · rw [hgrow.block b (by simp; omega) (fun e => by have := (vlt b e.symm).2; omega)]
      exact heap_alloc_old _ _ hb
    · have e' : g = b := by simpa [Value.ownBlock] using e
      rcases hat with h1 | h1
      · have := (vlt g h1).2; omega
      · omega
  · rw [seven_old hlen (by omega), List.getElem_append_left (by omega)]
    refine DatQ.keep (w := wr) (fun b hb hq => ?_) (fun b hb hq => ⟨hq.1, fun e => ?_⟩) (L.it j (by omega))
    · rw [hgrow.block b (by simp; omega) (fun e => hq.2 e.symm), heap_alloc_old _ _ (by omega)]
      exact hw b hb hq.1
    · have e' : g = b := by simpa [Value.ownBlock] using e
      rcases hat with h1 | h1
      · exact hq.2 (by rw [h1, e'])
      · omega

/-- Numbers of a row of one's own. -/
def cU (xs : List Nat) : List Value := xs.map fun (x : Nat) => (.int .u32 (x : Int) : Value)

theorem cU_snoc (xs : List Nat) (x : Nat) : cU (xs ++ [x]) = cU xs ++ [.int .u32 (x : Int)] := by simp [cU]

theorem own_sl {w : World} {B : Nat} {v : Value} {xs : List Nat} (h : w.ownsRow B 65 1 v xs.length (cU xs)) : Sl .u32 w v xs.length (fun i => xs.getD i 0) ∧ VQ (fun b => B ≤ b) v xs.length := by
  rcases h.2 with ⟨rfl, e0⟩ | ⟨g, cap, cur, rfl, h1, h2, h3, h4, h5, h6⟩
  · exact ⟨⟨none, 0, by rw [e0], by omega, by decide, fun _ => rfl, .inl e0⟩, .inl e0⟩
  · refine ⟨⟨_, _, rfl, h3, by unfold maxLen at h4; omega, (fun e => by cases e), .inr ⟨g, 0, rfl, fun i hi => ?_⟩⟩, .inr ⟨_, _, _, rfl, h1⟩⟩
    rw [cell_of_row w g _ cur _ _ h2, ← Array.getElem?_toList, Nat.zero_add]
    have := congrArg (fun l : List Value => l[i]?) h6
    simp only [List.getElem?_take] at this
    rw [if_pos (by simpa [cU] using hi)] at this
    rw [this]
    simp [cU, List.getD_eq_getElem?_getD, hi]

theorem rdLimb_len {l m : List Nat} {x : Nat} (h : rdLimb l = some (x, m)) : m.length < l.length := by
  unfold rdLimb at h
  split at h
  · cases h
  · rename_i hn
    split at h
    · cases h
      exact rdNum_len hn
    · cases h

theorem rdRow_limb_len : ∀ (n : Nat) (l xs m : List Nat), rdRow rdLimb n l = some (xs, m) → n + m.length ≤ l.length
  | 0, l, xs, m, h => by
    rw [rdRow_zero] at h
    cases h
    omega
  | n + 1, l, xs, m, h => by
    simp only [rdRow] at h
    split at h
    · cases h
    · rename_i h1
      split at h
      · cases h
      · rename_i h2
        cases h
        have a := rdLimb_len h1
        have b := rdRow_limb_len n _ _ _ h2
        omega

theorem rdMag_lr (l : List Nat) : rdMag l = match rdFlag l with
    | none => none
    | some (b, l1) => match rdNum l1 with
      | none => none
      | some (n, l2) => match rdRow rdLimb n l2 with
        | none => none
        | some (xs, m) => some ((b, xs), m) := by
  unfold rdMag rdCnt
  cases rdFlag l with
  | none => rfl
  | some x =>
    obtain ⟨b, l1⟩ := x
    cases hn : rdNum l1 with
    | none => simp only [hn]
    | some y =>
      obtain ⟨n, l2⟩ := y
      simp only [hn, Nat.div_one]
      by_cases hq : n ≤ l2.length
      · simp only [if_pos hq]
        cases rdRow rdLimb n l2 <;> rfl
      · simp only [if_neg hq]
        cases hr : rdRow rdLimb n l2 with
        | none => rfl
        | some z =>
          obtain ⟨xs, m⟩ := z
          have := rdRow_limb_len _ _ _ _ hr
          omega

theorem rdTxt_lr (l : List Nat) : rdTxt l = match rdNum l with
    | none => none
    | some (n, m) => if n ≤ m.length then some (strL (m.take n), m.drop n) else none := by
  unfold rdTxt rdCnt
  cases rdNum l with
  | none => rfl
  | some x =>
    obtain ⟨n, m⟩ := x
    simp only [Nat.div_one]
    by_cases hq : n ≤ m.length
    · simp only [if_pos hq]
    · simp only [if_neg hq]

theorem BL.convO {w0 w : World} {v : Value} {l : List Nat} {rb : Nat} {m : List Nat} {bad : Bool} {q : Int} (h : BL w0 v l) (hr : RfS w0 w rb m bad q) : (convert 23 9 v).run Try.prog w = .ok (.string (strL l)) w := h.conv hr.1

theorem conv_nil (W : World) : (convert 23 9 (.slice none 0 0)).run Try.prog W = .ok (.string ⟨#[]⟩) W := run_convert_bytes_nil W 23 5 Try.underlying23 Try.underlying5 0 0 9 Try.underlying9

theorem own_fr {w w' : World} {B rb : Nat} {e : TypeId} {size : Nat} {v : Value} {n : Nat} {xs : List Value} (h : w.ownsRow B e size v n xs) (F : Fr (fun j => j = rb) w w') (hrb : rb < B) : w'.ownsRow B e size v n xs := by
  refine ⟨h.1, ?_⟩
  rcases h.2 with e1 | ⟨g, cap, cur, e1, h1, h2, h3⟩
  · exact .inl e1
  · exact .inr ⟨g, cap, cur, e1, h1, (F.block g (Array.getElem?_eq_some_iff.1 h2).1 (by show g ≠ rb; omega)).trans h2, h3⟩

theorem own_set {w : World} {B b i : Nat} {u : Value} {e : TypeId} {size : Nat} {v : Value} {n : Nat} {xs : List Value} (h : w.ownsRow B e size v n xs) (hb : b < B) : (w.setCell ⟨b, i, none⟩ u).ownsRow B e size v n xs := by
  refine ⟨h.1, ?_⟩
  rcases h.2 with e1 | ⟨g, cap, cur, e1, h1, h2, h3⟩
  · exact .inl e1
  · exact .inr ⟨g, cap, cur, e1, h1, (heap_setCell_other _ _ _ _ (by show g ≠ b; omega)).trans h2, h3⟩

theorem hcell1 (w : World) (x : Value) (E : TypeId) : ∀ j u, [x][j]? = some u → (w.alloc (.cells #[x] E)).cell? ((⟨w.heap.size, 0, none⟩ : Addr).add j) = some u := by
  intro j u hj
  rw [Addr.add_lit, Nat.zero_add, cell_of_row _ _ j _ _ _ (heap_alloc_new w _)]
  simpa using hj

theorem hcell1s (w : World) (b i : Nat) (y x : Value) (E : TypeId) : ∀ j u, [x][j]? = some u → ((w.setCell ⟨b, i, none⟩ y).alloc (.cells #[x] E)).cell? ((⟨w.heap.size, 0, none⟩ : Addr).add j) = some u := by
  have e : (w.setCell ⟨b, i, none⟩ y).heap.size = w.heap.size := by simp [World.setCell]
  rw [← e]
  exact hcell1 _ _ _

/-- Behind an append to a row of one's own. -/
theorem app_post {w0 w W w9 : World} {rb R D : Nat} {l : List Nat} {bad : Bool} {q : Int} {c0 c1 c2 c3 c4 c5 c6 z0 z1 z2 z3 z4 z5 z6 : Value} {b : Option Nat} {o : Obj} (F : Fr (fun j => j = rb) w W) (hd : DBx W D c0 c1 c2 c3 c4 c5 c6) (hg : DBx W R z0 z1 z2 z3 z4 z5 z6) (hr : RfS w0 W rb l bad q) (hb : ∀ k, b = some k → D + 1 ≤ k) (hgrow : (W.alloc o).grownBy w9 b) (hw : w.heap.size ≤ R) (hRD : R < D) (hrb : rb < R) :
    Fr (fun j => j = rb) w w9 ∧ DBx w9 D c0 c1 c2 c3 c4 c5 c6 ∧ DBx w9 R z0 z1 z2 z3 z4 z5 z6 ∧ RfS w0 w9 rb l bad q :=
  ⟨(F.alloc o).gr hgrow hb (by omega), (DBx.gr (lo := D + 1) ((heap_alloc_old _ _ hd.lt).trans hd) hgrow hb (by omega)), (DBx.gr (lo := D + 1) ((heap_alloc_old _ _ hg.lt).trans hg) hgrow hb (by omega)), (hr.mono (up_alloc W o)).gr hgrow hb (by omega)⟩

theorem LB.set7 {w0 w w' : World} {rb : Nat} {l : List Nat} {q : Int} {g : Nat} (F : Fr (fun j => j = rb) w w') (h : RfS w0 w' rb l true q) (hrb : rb < g) (hg : w.heap.size ≤ g) (c0 c1 c2 c3 c4 c5 c6 : Value) : LB w0 w rb (Go.Proofs.Ytilcigjhogcjkaa.set7 w' g c0 c1 c2 c3 c4 c5 c6) := ⟨set7_fr F hg _ _ _ _ _ _ _, _, _, h.set7 hrb _ _ _ _ _ _ _⟩

theorem LB.trans {w0 w w1 w2 : World} {rb : Nat} (F : Fr (fun j => j = rb) w w1) (h : LB w0 w1 rb w2) : LB w0 w rb w2 := ⟨F.trans h.1 (fun _ _ e => e), h.2⟩

set_option maxRecDepth 20000 in
set_option maxHeartbeats 4000000 in
theorem ldat_over {h : Nat} (w0 w : World) (rb p : Nat) (dep : Int) (l : List Nat) (hr : RfS w0 w rb l false (p : Int)) (hp : p ≤ 20000) (ho : p = 0 ∨ 100 < dep) (hd0 : 0 ≤ dep) (hd : dep ≤ 101) :
    Calls Try.prog 33 #[.pointer (some ⟨rb, 0, none⟩), .int .i64 dep] w fun e w' => okL w0 w rb w.heap.size (none : Option (Tr h × List Nat × Nat)) e w' := by
  have hrb := hr.lt
  have hA0 := hr.mono (up_alloc w (.cells #[.int .i64 0, .int .i64 0, .bool false, .slice none 0 0, .string ⟨#[]⟩, .slice none 0 0, .slice none 0 0] 64))
  have x2 := hA0.k2
  have z2 := hA0.fz 2
  have hB1 := hA0.left ((p : Int) - 1)
  have x3 := hB1.k2
  have x4 := hB1.k1
  have z4 := hB1.fz 1
  have hA2 := hB1.bad true
  have HD4 : Hid (DBx ((((w.alloc (.cells #[.int .i64 0, .int .i64 0, .bool false, .slice none 0 0, .string ⟨#[]⟩, .slice none 0 0, .slice none 0 0] 64)).setCell ⟨rb, 2, none⟩ (.int .i64 ((p : Int) - 1))).setCell ⟨rb, 1, none⟩ (.bool true))) w.heap.size (.int .i64 0) (.int .i64 0) (.bool false) (.slice none 0 0) (.string ⟨#[]⟩) (.slice none 0 0) (.slice none 0 0)) := ((heap_setCell_other _ _ _ _ (show w.heap.size ≠ rb from by omega)).trans (heap_setCell_other _ _ _ _ (show w.heap.size ≠ rb from by omega))).trans (heap_alloc_new w _)
  have HF0 : Hid (Fr (fun j => j = rb) w ((((w.alloc (.cells #[.int .i64 0, .int .i64 0, .bool false, .slice none 0 0, .string ⟨#[]⟩, .slice none 0 0, .slice none 0 0] 64)).setCell ⟨rb, 2, none⟩ (.int .i64 ((p : Int) - 1))).setCell ⟨rb, 1, none⟩ (.bool true)))) := (((Fr.refl (fun j => j = rb) w).alloc _).setCell (fun _ => rfl) _ _).setCell (fun _ => rfl) _ _
  have K0 := hide (lnum_bad w0 _ rb l _ hA2)
  have hso : ((p : Int) - 1 < 0) ∨ (¬ ((p : Int) - 1 < 0) ∧ dep > 100) := by omega
  have HRB := hide hrb
  clear hr hA0 hB1 hA2 ho hrb
  rcases hso with g1 | ⟨g1, g2⟩
  · go_enter Try.func33, Try.ntmps33
    go_wp2_with (go_at_call 30; refine K0.out.mono ?_; rintro e1 w1 ⟨rfl, F1, l1, q1, hr1⟩; have d4 := (HD4.out.frr F1 (by have := HRB.out; omega)).al (.cells #[.int .i64 0, .int .i64 0, .bool false, .slice none 0 0, .string ⟨#[]⟩, .slice none 0 0, .slice none 0 0] 64); have d5 : DBx (w1.alloc (.cells #[.int .i64 0, .int .i64 0, .bool false, .slice none 0 0, .string ⟨#[]⟩, .slice none 0 0, .slice none 0 0] 64)) w1.heap.size (.int .i64 0) (.int .i64 0) (.bool false) (.slice none 0 0) (.string ⟨#[]⟩) (.slice none 0 0) (.slice none 0 0) := heap_alloc_new w1 _; obtain ⟨⟨x90, x91, x92, x93, x94, x95, x96⟩, ⟨f90, y90⟩, ⟨f91, y91⟩, ⟨f92, y92⟩, ⟨f93, y93⟩, ⟨f94, y94⟩, ⟨f95, y95⟩, ⟨f96, y96⟩, ⟨kr0, kr1, kr2, kr3, kr4, kr5, kr6⟩⟩ := DBx.copyF d5 d4; have hr2 := hr1.mono (up_alloc w1 (.cells #[.int .i64 0, .int .i64 0, .bool false, .slice none 0 0, .string ⟨#[]⟩, .slice none 0 0, .slice none 0 0] 64)); have b1 := hr2.k1; have HR1 := hide hr2; have HF1 := hide ((HF0.out.trans F1 (fun _ _ e => e)).alloc (.cells #[.int .i64 0, .int .i64 0, .bool false, .slice none 0 0, .string ⟨#[]⟩, .slice none 0 0, .slice none 0 0] 64)); clear F1 hr1 hr2 d4 d5)
    refine bodyPost_ret (by simp [results, Try.results33, go_sem, kr0, kr1, kr2, kr3, kr4, kr5, kr6]; rfl) rfl ?_
    exact okL.mkno rfl (LB.set7 HF1.out HR1.out HRB.out (Nat.le_refl _) _ _ _ _ _ _ _) rfl
  · go_enter Try.func33, Try.ntmps33
    go_wp2_with (go_at_call 30; refine K0.out.mono ?_; rintro e1 w1 ⟨rfl, F1, l1, q1, hr1⟩; have d4 := (HD4.out.frr F1 (by have := HRB.out; omega)).al (.cells #[.int .i64 0, .int .i64 0, .bool false, .slice none 0 0, .string ⟨#[]⟩, .slice none 0 0, .slice none 0 0] 64); have d5 : DBx (w1.alloc (.cells #[.int .i64 0, .int .i64 0, .bool false, .slice none 0 0, .string ⟨#[]⟩, .slice none 0 0, .slice none 0 0] 64)) w1.heap.size (.int .i64 0) (.int .i64 0) (.bool false) (.slice none 0 0) (.string ⟨#[]⟩) (.slice none 0 0) (.slice none 0 0) := heap_alloc_new w1 _; obtain ⟨⟨x90, x91, x92, x93, x94, x95, x96⟩, ⟨f90, y90⟩, ⟨f91, y91⟩, ⟨f92, y92⟩, ⟨f93, y93⟩, ⟨f94, y94⟩, ⟨f95, y95⟩, ⟨f96, y96⟩, ⟨kr0, kr1, kr2, kr3, kr4, kr5, kr6⟩⟩ := DBx.copyF d5 d4; have hr2 := hr1.mono (up_alloc w1 (.cells #[.int .i64 0, .int .i64 0, .bool false, .slice none 0 0, .string ⟨#[]⟩, .slice none 0 0, .slice none 0 0] 64)); have b1 := hr2.k1; have HR1 := hide hr2; have HF1 := hide ((HF0.out.trans F1 (fun _ _ e => e)).alloc (.cells #[.int .i64 0, .int .i64 0, .bool false, .slice none 0 0, .string ⟨#[]⟩, .slice none 0 0, .slice none 0 0] 64)); clear F1 hr1 hr2 d4 d5)
    refine bodyPost_ret (by simp [results, Try.results33, go_sem, kr0, kr1, kr2, kr3, kr4, kr5, kr6]; rfl) rfl ?_
    exact okL.mkno rfl (LB.set7 HF1.out HR1.out HRB.out (Nat.le_refl _) _ _ _ _ _ _ _) rfl

set_option maxRecDepth 20000 in
set_option maxHeartbeats 4000000 in
theorem ldat_none {h : Nat} (w0 w : World) (rb p dp : Nat) (dep : Int) (l _m : List Nat) (hr : RfS w0 w rb l false (p : Int)) (h8 : By8 l) (_hl : l.length ≤ 100000000) (hp : p ≤ 20000) (hp1 : 1 ≤ p) (hd : dp + 1 ≤ 100) (hdep : dep = 100 - (dp : Int)) (hn : rdNum l = none) :
    Calls Try.prog 33 #[.pointer (some ⟨rb, 0, none⟩), .int .i64 dep] w fun e w' => okL w0 w rb w.heap.size (lrDat (h + 1) (dp + 1) l p) e w' := by
  obtain ⟨out, hout⟩ : ∃ o, o = lrDat (h + 1) (dp + 1) l p := ⟨_, rfl⟩
  rw [← hout]
  have hrb := hr.lt
  have hA0 := hr.mono (up_alloc w (.cells #[.int .i64 0, .int .i64 0, .bool false, .slice none 0 0, .string ⟨#[]⟩, .slice none 0 0, .slice none 0 0] 64))
  have x2 := hA0.k2
  have z2 := hA0.fz 2
  have hB1 := hA0.left ((p : Int) - 1)
  have x3 := hB1.k2
  have HD4 : Hid (DBx ((w.alloc (.cells #[.int .i64 0, .int .i64 0, .bool false, .slice none 0 0, .string ⟨#[]⟩, .slice none 0 0, .slice none 0 0] 64)).setCell ⟨rb, 2, none⟩ (.int .i64 ((p : Int) - 1))) w.heap.size (.int .i64 0) (.int .i64 0) (.bool false) (.slice none 0 0) (.string ⟨#[]⟩) (.slice none 0 0) (.slice none 0 0)) := (heap_setCell_other _ _ _ _ (show w.heap.size ≠ rb from by omega)).trans (heap_alloc_new w _)
  have HF0 : Hid (Fr (fun j => j = rb) w ((w.alloc (.cells #[.int .i64 0, .int .i64 0, .bool false, .slice none 0 0, .string ⟨#[]⟩, .slice none 0 0, .slice none 0 0] 64)).setCell ⟨rb, 2, none⟩ (.int .i64 ((p : Int) - 1)))) := ((Fr.refl (fun j => j = rb) w).alloc _).setCell (fun _ => rfl) _ _
  have HRB := hide hrb
  have g1 : ¬ ((p : Int) - 1 < 0) := by omega
  have g2 : ¬ (dep > 100) := by omega
  have K0 := hide ((lnum_any w0 _ rb l _ hB1 h8).mono (fun _ _ x => x.no hn))
  have HO : Hid (out = none) := by unfold Hid; rw [hout]; simp only [lrDat, hn]; split <;> rfl
  clear hr hrb hA0 hB1 h8 hn hout
  go_enter Try.func33, Try.ntmps33
  go_wp2_with (go_at_call 30; refine K0.out.mono ?_; rintro e1 w1 ⟨n1, hn1, rfl, F1, l1, q1, hr1⟩; have d4 := (HD4.out.frr F1 (by have := HRB.out; omega)).al (.cells #[.int .i64 ((n1 : Int)), .int .i64 0, .bool false, .slice none 0 0, .string ⟨#[]⟩, .slice none 0 0, .slice none 0 0] 64); have d5 : DBx (w1.alloc (.cells #[.int .i64 ((n1 : Int)), .int .i64 0, .bool false, .slice none 0 0, .string ⟨#[]⟩, .slice none 0 0, .slice none 0 0] 64)) w1.heap.size (.int .i64 ((n1 : Int))) (.int .i64 0) (.bool false) (.slice none 0 0) (.string ⟨#[]⟩) (.slice none 0 0) (.slice none 0 0) := heap_alloc_new w1 _; obtain ⟨⟨x90, x91, x92, x93, x94, x95, x96⟩, ⟨f90, y90⟩, ⟨f91, y91⟩, ⟨f92, y92⟩, ⟨f93, y93⟩, ⟨f94, y94⟩, ⟨f95, y95⟩, ⟨f96, y96⟩, ⟨kr0, kr1, kr2, kr3, kr4, kr5, kr6⟩⟩ := DBx.copyF d5 d4; have hr2 := hr1.mono (up_alloc w1 (.cells #[.int .i64 ((n1 : Int)), .int .i64 0, .bool false, .slice none 0 0, .string ⟨#[]⟩, .slice none 0 0, .slice none 0 0] 64)); have b1 := hr2.k1; have HR1 := hide hr2; have HF1 := hide ((HF0.out.trans F1 (fun _ _ e => e)).alloc (.cells #[.int .i64 ((n1 : Int)), .int .i64 0, .bool false, .slice none 0 0, .string ⟨#[]⟩, .slice none 0 0, .slice none 0 0] 64)); clear F1 hr1 hr2 d4 d5)
  refine bodyPost_ret (by simp [results, Try.results33, go_sem, kr0, kr1, kr2, kr3, kr4, kr5, kr6]; rfl) rfl ?_
  exact okL.mkno HO.out (LB.set7 HF1.out HR1.out HRB.out (Nat.le_refl _) _ _ _ _ _ _ _) rfl

end Go.Proofs.Ytilcigjhogcjkaa
