/-
  What is proved here: the reader's spend; what it makes of bytes as data (package pack). the closure that reads a datum of a row (package pack), given datum. what a reader of data leaves is of what was there; no walk. the reader's rows of data (package pack), given datum. the reader's data and rest (package pack), given datum.
-/
import Derived.Test.YtilcigjhogcjkaaPRB
namespace Go.Proofs.Ytilcigjhogcjkaa
open Go Go.RowKit

/-- So many of what f reads, with the parts that are left. -/
def rdRowP {α : Type} (f : List Nat → Nat → Option (α × List Nat × Nat)) : Nat → List Nat → Nat → Option (List α × List Nat × Nat)
  | 0, l, p => some ([], l, p)
  | n + 1, l, p => match f l p with
    | none => none
    | some (x, m, q) => match rdRowP f n m q with
      | none => none
      | some (xs, k, r) => some (x :: xs, k, r)
def moreP {α : Type} (xs : List α) (o : Option (List α × List Nat × Nat)) : Option (List α × List Nat × Nat) := match o with
  | none => none
  | some (ys, m, q) => some (xs ++ ys, m, q)
theorem rdRowP_zero {α : Type} (f : List Nat → Nat → Option (α × List Nat × Nat)) (l : List Nat) (p : Nat) : rdRowP f 0 l p = some ([], l, p) := rfl
theorem moreP_nil {α : Type} (o : Option (List α × List Nat × Nat)) : moreP [] o = o := by cases o <;> rfl
theorem moreP_no {α : Type} {f : List Nat → Nat → Option (α × List Nat × Nat)} {xs : List α} {k p : Nat} {l : List Nat} (h : f l p = none) : moreP xs (rdRowP f (k + 1) l p) = none := by
  show moreP xs (match f l p with | none => none | some (x, m, q) => match rdRowP f k m q with | none => none | some (xs, k, r) => some (x :: xs, k, r)) = none
  rw [h]
  rfl
theorem moreP_yes {α : Type} {f : List Nat → Nat → Option (α × List Nat × Nat)} {xs : List α} {k p q : Nat} {l m : List Nat} {x : α} (h : f l p = some (x, m, q)) : moreP xs (rdRowP f (k + 1) l p) = moreP (xs ++ [x]) (rdRowP f k m q) := by
  show moreP xs (match f l p with | none => none | some (x, m, q) => match rdRowP f k m q with | none => none | some (xs, k, r) => some (x :: xs, k, r)) = _
  rw [h]
  show moreP xs (match rdRowP f k m q with | none => none | some (xs, k, r) => some (x :: xs, k, r)) = _
  cases rdRowP f k m q with
  | none => rfl
  | some y => simp [moreP]
/-- Data, by what reads one of them. -/
def rdDta {α : Type} (f : List Nat → Nat → Option (α × List Nat × Nat)) (l : List Nat) (p : Nat) : Option (List α × List Nat × Nat) := match rdCnt 1 l with
  | none => none
  | some (n, m) => if n ≤ p then rdRowP f n m (p - n) else none
def rdRst {α : Type} (f : List Nat → Nat → Option (α × List Nat × Nat)) (l : List Nat) (p : Nat) : Option (List α × List Nat × Nat) := match rdFlag l with
  | none => none
  | some (b, m) => if b = true then (if 1 ≤ p then (match f m (p - 1) with
      | none => none
      | some (d, k, q) => some ([d], k, q)) else none) else some ([], m, p)
/-- A datum's fields, of a kind. -/
def rdFld {h : Nat} (f : List Nat → Nat → Option (Tr h × List Nat × Nat)) (k : Nat) (l : List Nat) (p : Nat) : Option (Tr (h + 1) × List Nat × Nat) :=
  if k = 1 then (match rdMag l with | none => none | some ((b, L), m) => some (((1 : Int), (0 : Int), b, L, ⟨#[]⟩, [], []), m, p))
  else if k = 2 ∨ k = 3 ∨ k = 9 then (match rdSgn l with | none => none | some (n, m) => some (((k : Int), n, false, [], ⟨#[]⟩, [], []), m, p))
  else if k = 4 then (match rdTxt l with | none => none | some (t, m) => some (((4 : Int), (0 : Int), false, [], t, [], []), m, p))
  else if k = 5 then (match rdTxt l with | none => none | some (t, m) => match rdSgn m with | none => none | some (n, m') => some (((5 : Int), n, false, [], t, [], []), m', p))
  else if k = 6 then (match rdDta f l p with | none => none | some (I, m, q) => match rdRst f m q with | none => none | some (R, m', q') => some (((6 : Int), (0 : Int), false, [], ⟨#[]⟩, I, R), m', q'))
  else if k = 7 then (match rdDta f l p with | none => none | some (I, m, q) => some (((7 : Int), (0 : Int), false, [], ⟨#[]⟩, I, []), m, q))
  else some (((k : Int), (0 : Int), false, [], ⟨#[]⟩, [], []), l, p)
/-- A datum, at a depth. -/
def rdDat : (h : Nat) → Nat → List Nat → Nat → Option (Tr h × List Nat × Nat)
  | 0, _, _, _ => none
  | _ + 1, 0, _, _ => none
  | h + 1, dp + 1, l, p => match rdNum l with
    | none => none
    | some (k, m) => match rdFld (rdDat h dp) k m p with
      | none => none
      | some (d, m', q) => if fit1 (h := h) d then some (d, m', q) else none

theorem RS.set1 {w0 w : World} {rb p q : Nat} {l : List Nat} (h : RS w0 w rb l p) : RS w0 (w.setCell ⟨rb, 1, none⟩ (.int .i64 (q : Int))) rb l q := by
  obtain ⟨hU, hrb, v, hB, hR⟩ := h
  exact ⟨⟨hU.os, hU.tape, hU.output, by simpa [World.setCell] using hU.size, fun k hk => (heap_setCell_other _ _ _ _ (by show k ≠ rb; omega)).trans (hU.block k hk)⟩, hrb, v, hB, hR.set1 q⟩
set_option maxRecDepth 20000 in
theorem spend_any (w0 w : World) (rb p n : Nat) (l : List Nat) (h : RS w0 w rb l p) (hp : p ≤ 20000) (hn : n ≤ 100000000) :
    Calls Try.prog 74 #[.pointer (some ⟨rb, 0, none⟩), .int .i64 (n : Int)] w fun e w' => RQ w rb (fun q e w' => e = .returned (.tuple #[]) ∧ RS w0 w' rb l q) (if n ≤ p then some (p - n) else none) e w' := by
  have x1 : w.cell? ⟨rb, 1, none⟩ = some (.int .i64 (p : Int)) := by obtain ⟨-, -, v, -, hR⟩ := h; exact hR.c1
  have x2 : w.frozen? ⟨rb, 1, none⟩ = false := by obtain ⟨-, -, v, -, hR⟩ := h; exact hR.fz 1
  obtain ⟨out, ho⟩ : ∃ o, o = (if n ≤ p then some (p - n) else none) := ⟨_, rfl⟩
  rw [← ho]
  have HO := hide ho
  clear ho
  by_cases hq : n ≤ p
  · have g1 : (n : Int) ≤ (p : Int) := by omega
    have HO2 : Hid (out = some (p - n)) := HO.out.trans (if_pos hq)
    have e1 : (p : Int) - (n : Int) = ((p - n : Nat) : Int) := by omega
    have HM := hide (fun (W : World) => must_yes W)
    have HR := hide (h.set1 (q := p - n))
    clear h
    go_enter Try.func74, Try.ntmps74
    go_wp2_with (go_at_call 46; refine (HM.out _).mono ?_; rintro e3 w3 ⟨rfl, hw⟩; replace hw := hw.symm; subst hw)
    go_end0
    exact RQ.mk' HO2.out (Fr.setCell (S := fun j => j = rb) (Fr.refl _ _) (fun _ => rfl) _ _) ⟨rfl, HR.out⟩
  · have HO2 : Hid (out = none) := HO.out.trans (if_neg hq)
    have g1 : ¬ ((n : Int) ≤ (p : Int)) := by omega
    have g2 : decide ((n : Int) ≤ (p : Int)) = false := decide_eq_false g1
    have HM := hide (fun (W : World) => must_no W)
    clear h
    go_enter Try.func74, Try.ntmps74
    go_wp2_with (go_at_call 46; refine (HM.out _).mono ?_; rintro e3 w3 ⟨rfl, hw⟩; replace hw := hw.symm; subst hw)
    exact ⟨rfl, RQ.mkno HO2.out (Fr.refl _ _)⟩

/-- A datum that was read lies in new blocks. -/
def okD {h : Nat} (w0 : World) (rb B : Nat) (x : Tr h × List Nat × Nat) (e : Ending) (w' : World) : Prop := ∃ (kk nn : Int) (bb : Bool) (m1 : Option Addr) (m2 m3 : Nat) (tt : ByteArray) (i1 : Option Addr) (i2 i3 : Nat) (r1 : Option Addr) (r2 r3 : Nat), e = .returned (.agg #[.int .i64 kk, .int .i64 nn, .bool bb, .slice m1 m2 m3, .string tt, .slice i1 i2 i3, .slice r1 r2 r3]) ∧ DatQ (fun b => B ≤ b) w' h x.1 [.int .i64 kk, .int .i64 nn, .bool bb, .slice m1 m2 m3, .string tt, .slice i1 i2 i3, .slice r1 r2 r3] ∧ RS w0 w' rb x.2.1 x.2.2
def DOK (h : Nat) : Prop := ∀ (w0 w : World) (rb p dp : Nat) (l : List Nat), RS w0 w rb l p → By8 l → l.length ≤ 100000000 → p ≤ 20000 → dp ≤ 100 → dp ≤ h →
  Calls Try.prog 77 #[.pointer (some ⟨rb, 0, none⟩), .int .i64 (dp : Int)] w fun e w' => RQ w rb (okD w0 rb w.heap.size) (rdDat h dp l p) e w'
/-- The two variables that the closure sees. -/
def BX (w : World) (b2 b3 rb dp : Nat) : Prop := w.heap[b2]? = some (.cells #[.pointer (some ⟨rb, 0, none⟩)] 91 (0, 0)) ∧ w.heap[b3]? = some (.cells #[.int .i64 (dp : Int)] 3 (0, 0)) ∧ b2 ≠ rb ∧ b3 ≠ rb
theorem BX.fr {w w' : World} {b2 b3 rb dp : Nat} (h : BX w b2 b3 rb dp) (F : Fr (fun j => j = rb) w w') : BX w' b2 b3 rb dp := ⟨(F.block b2 (Array.getElem?_eq_some_iff.1 h.1).1 h.2.2.1).trans h.1, (F.block b3 (Array.getElem?_eq_some_iff.1 h.2.1).1 h.2.2.2).trans h.2.1, h.2.2⟩
theorem BX.lt {w : World} {b2 b3 rb dp : Nat} (h : BX w b2 b3 rb dp) : b2 < w.heap.size ∧ b3 < w.heap.size := ⟨(Array.getElem?_eq_some_iff.1 h.1).1, (Array.getElem?_eq_some_iff.1 h.2.1).1⟩

theorem DBx.s0 {w : World} {B : Nat} {c0 c1 c2 c3 c4 c5 c6 : Value} (h : DBx w B c0 c1 c2 c3 c4 c5 c6) (x : Value) : DBx (w.setCell ⟨B, 0, none⟩ x) B x c1 c2 c3 c4 c5 c6 := (heap_setCell_same w B 0 _ _ x h).trans rfl
theorem DBx.s1 {w : World} {B : Nat} {c0 c1 c2 c3 c4 c5 c6 : Value} (h : DBx w B c0 c1 c2 c3 c4 c5 c6) (x : Value) : DBx (w.setCell ⟨B, 1, none⟩ x) B c0 x c2 c3 c4 c5 c6 := (heap_setCell_same w B 1 _ _ x h).trans rfl
theorem DBx.s2 {w : World} {B : Nat} {c0 c1 c2 c3 c4 c5 c6 : Value} (h : DBx w B c0 c1 c2 c3 c4 c5 c6) (x : Value) : DBx (w.setCell ⟨B, 2, none⟩ x) B c0 c1 x c3 c4 c5 c6 := (heap_setCell_same w B 2 _ _ x h).trans rfl
theorem DBx.s3 {w : World} {B : Nat} {c0 c1 c2 c3 c4 c5 c6 : Value} (h : DBx w B c0 c1 c2 c3 c4 c5 c6) (x : Value) : DBx (w.setCell ⟨B, 3, none⟩ x) B c0 c1 c2 x c4 c5 c6 := (heap_setCell_same w B 3 _ _ x h).trans rfl
theorem DBx.s4 {w : World} {B : Nat} {c0 c1 c2 c3 c4 c5 c6 : Value} (h : DBx w B c0 c1 c2 c3 c4 c5 c6) (x : Value) : DBx (w.setCell ⟨B, 4, none⟩ x) B c0 c1 c2 c3 x c5 c6 := (heap_setCell_same w B 4 _ _ x h).trans rfl
theorem DBx.s5 {w : World} {B : Nat} {c0 c1 c2 c3 c4 c5 c6 : Value} (h : DBx w B c0 c1 c2 c3 c4 c5 c6) (x : Value) : DBx (w.setCell ⟨B, 5, none⟩ x) B c0 c1 c2 c3 c4 x c6 := (heap_setCell_same w B 5 _ _ x h).trans rfl
theorem DBx.s6 {w : World} {B : Nat} {c0 c1 c2 c3 c4 c5 c6 : Value} (h : DBx w B c0 c1 c2 c3 c4 c5 c6) (x : Value) : DBx (w.setCell ⟨B, 6, none⟩ x) B c0 c1 c2 c3 c4 c5 x := (heap_setCell_same w B 6 _ _ x h).trans rfl
theorem DBx.fz {w : World} {B : Nat} {c0 c1 c2 c3 c4 c5 c6 : Value} (h : DBx w B c0 c1 c2 c3 c4 c5 c6) (i : Nat) : w.frozen? ⟨B, i, none⟩ = false := frozen_of_row _ _ _ _ _ h
theorem DBx.frr {w w' : World} {B rb : Nat} {c0 c1 c2 c3 c4 c5 c6 : Value} (h : DBx w B c0 c1 c2 c3 c4 c5 c6) (F : Fr (fun j => j = rb) w w') (hn : B ≠ rb) : DBx w' B c0 c1 c2 c3 c4 c5 c6 := (F.block B (Array.getElem?_eq_some_iff.1 h).1 hn).trans h
/-- Seven cells of a variable are set. -/
def set7 (w : World) (B : Nat) (c0 c1 c2 c3 c4 c5 c6 : Value) : World := ((((((w.setCell ⟨B, 0, none⟩ c0).setCell ⟨B, 1, none⟩ c1).setCell ⟨B, 2, none⟩ c2).setCell ⟨B, 3, none⟩ c3).setCell ⟨B, 4, none⟩ c4).setCell ⟨B, 5, none⟩ c5).setCell ⟨B, 6, none⟩ c6
theorem set7_fr {S : Nat → Prop} {w w' : World} {B : Nat} (F : Fr S w w') (hB : w.heap.size ≤ B) (c0 c1 c2 c3 c4 c5 c6 : Value) : Fr S w (set7 w' B c0 c1 c2 c3 c4 c5 c6) :=
  ((((((F.setCell (fun e => by omega) _ _).setCell (fun e => by omega) _ _).setCell (fun e => by omega) _ _).setCell (fun e => by omega) _ _).setCell (fun e => by omega) _ _).setCell (fun e => by omega) _ _).setCell (fun e => by omega) _ _
theorem set7_rs {w0 w : World} {rb p B : Nat} {l : List Nat} (h : RS w0 w rb l p) (hB : rb < B) (c0 c1 c2 c3 c4 c5 c6 : Value) : RS w0 (set7 w B c0 c1 c2 c3 c4 c5 c6) rb l p := ((((((h.setO hB).setO hB).setO hB).setO hB).setO hB).setO hB).setO hB
theorem set7_other {w : World} {B k : Nat} (hk : k ≠ B) (c0 c1 c2 c3 c4 c5 c6 : Value) : (set7 w B c0 c1 c2 c3 c4 c5 c6).heap[k]? = w.heap[k]? := by
  unfold set7
  rw [heap_setCell_other _ _ _ _ hk, heap_setCell_other _ _ _ _ hk, heap_setCell_other _ _ _ _ hk, heap_setCell_other _ _ _ _ hk, heap_setCell_other _ _ _ _ hk, heap_setCell_other _ _ _ _ hk, heap_setCell_other _ _ _ _ hk]

set_option maxRecDepth 20000 in
theorem data1_no {h : Nat} (hC : DOK h) (w0 w : World) (rb p dp b2 b3 : Nat) (l : List Nat) (hr : RS w0 w rb l p) (h8 : By8 l) (hl : l.length ≤ 100000000) (hp : p ≤ 20000) (hd : dp ≤ 100) (hh : dp ≤ h) (hb : BX w b2 b3 rb dp) (hx : rdDat h dp l p = none) :
    Calls Try.prog 76 #[.pointer (some ⟨b2, 0, none⟩), .pointer (some ⟨b3, 0, none⟩)] w fun e w' => e = .panicked PAN ∧ Fr (fun j => j = rb) w w' := by
  have hB := hb.fr (rb := rb) ((Fr.refl (fun j => j = rb) w).alloc (.cells #[.int .i64 0, .int .i64 0, .bool false, .slice none 0 0, .string ⟨#[]⟩, .slice none 0 0, .slice none 0 0] 64))
  have y2 : (w.alloc (.cells #[.int .i64 0, .int .i64 0, .bool false, .slice none 0 0, .string ⟨#[]⟩, .slice none 0 0, .slice none 0 0] 64)).cell? ⟨b2, 0, none⟩ = some (.pointer (some ⟨rb, 0, none⟩)) := by rw [cell_of_row _ b2 0 _ _ _ hB.1]; rfl
  have y3 : (w.alloc (.cells #[.int .i64 0, .int .i64 0, .bool false, .slice none 0 0, .string ⟨#[]⟩, .slice none 0 0, .slice none 0 0] 64)).cell? ⟨b3, 0, none⟩ = some (.int .i64 (dp : Int)) := by rw [cell_of_row _ b3 0 _ _ _ hB.2.1]; rfl
  have K := hide (fun (W : World) (h' : RS w0 W rb l p) => (hC w0 W rb p dp l h' h8 hl hp hd hh).mono (fun _ _ q => q.no hx))
  have HR := hide (hr.mono (up_alloc w (.cells #[.int .i64 0, .int .i64 0, .bool false, .slice none 0 0, .string ⟨#[]⟩, .slice none 0 0, .slice none 0 0] 64)))
  have HF := hide ((Fr.refl (fun j => j = rb) w).alloc (.cells #[.int .i64 0, .int .i64 0, .bool false, .slice none 0 0, .string ⟨#[]⟩, .slice none 0 0, .slice none 0 0] 64))
  clear hB hb hr hx hC
  go_enter Try.func76, Try.ntmps76
  go_wp2_with (go_at_call 77; refine (K.out _ HR.out).mono ?_; rintro e1 w1 ⟨rfl, F1⟩; have HF1 := hide (HF.out.trans F1 (fun _ _ e => e)); clear F1)
  exact ⟨rfl, rfl, HF1.out⟩

set_option maxRecDepth 20000 in
theorem data1_yes {h : Nat} (hC : DOK h) (w0 w : World) (rb p dp b2 b3 : Nat) (l : List Nat) (hr : RS w0 w rb l p) (h8 : By8 l) (hl : l.length ≤ 100000000) (hp : p ≤ 20000) (hd : dp ≤ 100) (hh : dp ≤ h) (hb : BX w b2 b3 rb dp) (x : Tr h × List Nat × Nat) (hx : rdDat h dp l p = some x) :
    Calls Try.prog 76 #[.pointer (some ⟨b2, 0, none⟩), .pointer (some ⟨b3, 0, none⟩)] w fun e w' => okD w0 rb w.heap.size x e w' ∧ Fr (fun j => j = rb) w w' := by
  have hrb := hr.lt
  have hB := hb.fr (rb := rb) ((Fr.refl (fun j => j = rb) w).alloc (.cells #[.int .i64 0, .int .i64 0, .bool false, .slice none 0 0, .string ⟨#[]⟩, .slice none 0 0, .slice none 0 0] 64))
  have y2 : (w.alloc (.cells #[.int .i64 0, .int .i64 0, .bool false, .slice none 0 0, .string ⟨#[]⟩, .slice none 0 0, .slice none 0 0] 64)).cell? ⟨b2, 0, none⟩ = some (.pointer (some ⟨rb, 0, none⟩)) := by rw [cell_of_row _ b2 0 _ _ _ hB.1]; rfl
  have y3 : (w.alloc (.cells #[.int .i64 0, .int .i64 0, .bool false, .slice none 0 0, .string ⟨#[]⟩, .slice none 0 0, .slice none 0 0] 64)).cell? ⟨b3, 0, none⟩ = some (.int .i64 (dp : Int)) := by rw [cell_of_row _ b3 0 _ _ _ hB.2.1]; rfl
  have K := hide (fun (W : World) (h' : RS w0 W rb l p) => (hC w0 W rb p dp l h' h8 hl hp hd hh).mono (fun _ _ q => q.yes hx))
  have HR := hide (hr.mono (up_alloc w (.cells #[.int .i64 0, .int .i64 0, .bool false, .slice none 0 0, .string ⟨#[]⟩, .slice none 0 0, .slice none 0 0] 64)))
  have HF := hide ((Fr.refl (fun j => j = rb) w).alloc (.cells #[.int .i64 0, .int .i64 0, .bool false, .slice none 0 0, .string ⟨#[]⟩, .slice none 0 0, .slice none 0 0] 64))
  have HD : Hid (DBx (w.alloc (.cells #[.int .i64 0, .int .i64 0, .bool false, .slice none 0 0, .string ⟨#[]⟩, .slice none 0 0, .slice none 0 0] 64)) w.heap.size (.int .i64 0) (.int .i64 0) (.bool false) (.slice none 0 0) (.string ⟨#[]⟩) (.slice none 0 0) (.slice none 0 0)) := heap_alloc_new w _
  clear hB hb hr hx hC
  go_enter Try.func76, Try.ntmps76
  go_wp2_with (go_at_call 77; refine (K.out _ HR.out).mono ?_; rintro e1 w1 ⟨⟨kk, nn, bb, m1, m2, m3, tt, i1, i2, i3, r1, r2, r3, rfl, hq, hr1⟩, F1⟩; have D := HD.out.frr F1 (by omega); have fz0 := D.fz 0; have ky0 := D.k0; have S0 := D.s0 (.int .i64 kk); have fz1 := S0.fz 1; have ky1 := S0.k1; have S1 := S0.s1 (.int .i64 nn); have fz2 := S1.fz 2; have ky2 := S1.k2; have S2 := S1.s2 (.bool bb); have fz3 := S2.fz 3; have ky3 := S2.k3; have S3 := S2.s3 (.slice m1 m2 m3); have fz4 := S3.fz 4; have ky4 := S3.k4; have S4 := S3.s4 (.string tt); have fz5 := S4.fz 5; have ky5 := S4.k5; have S5 := S4.s5 (.slice i1 i2 i3); have fz6 := S5.fz 6; have ky6 := S5.k6; have S6 := S5.s6 (.slice r1 r2 r3); have kr0 := S6.k0; have kr1 := S6.k1; have kr2 := S6.k2; have kr3 := S6.k3; have kr4 := S6.k4; have kr5 := S6.k5; have kr6 := S6.k6; have HF1 := hide (HF.out.trans F1 (fun _ _ e => e)); have HQ := hide hq; have HR1 := hide hr1; clear F1 hq hr1 D S0 S1 S2 S3 S4 S5 S6)
  refine bodyPost_ret (by simp [results, Try.results76, go_sem, kr0, kr1, kr2, kr3, kr4, kr5, kr6]; rfl) rfl ?_
  refine ⟨⟨kk, nn, bb, m1, m2, m3, tt, i1, i2, i3, r1, r2, r3, rfl, HQ.out.keep (w' := set7 w1 w.heap.size (.int .i64 kk) (.int .i64 nn) (.bool bb) (.slice m1 m2 m3) (.string tt) (.slice i1 i2 i3) (.slice r1 r2 r3)) (fun k hk hq => set7_other (by simp at hq; omega) _ _ _ _ _ _ _) (fun k hk hq => by simp at hq; omega), set7_rs HR1.out hrb _ _ _ _ _ _ _⟩, set7_fr HF1.out (Nat.le_refl _) _ _ _ _ _ _ _⟩

def Suf {α : Type} (f : List Nat → Nat → Option (α × List Nat × Nat)) : Prop := ∀ l p x m q, f l p = some (x, m, q) → m <:+ l ∧ q ≤ p
theorem rdRowP_suf {α : Type} {f : List Nat → Nat → Option (α × List Nat × Nat)} (hf : Suf f) : ∀ n, Suf (rdRowP f n)
  | 0, l, p, x, m, q, h => by
    rw [rdRowP_zero] at h
    cases h
    exact ⟨List.suffix_refl _, Nat.le_refl _⟩
  | n + 1, l, p, x, m, q, h => by
    simp only [rdRowP] at h
    split at h
    · cases h
    · rename_i h1
      split at h
      · cases h
      · rename_i h2
        cases h
        have a := hf _ _ _ _ _ h1
        have b := rdRowP_suf hf n _ _ _ _ _ h2
        exact ⟨b.1.trans a.1, Nat.le_trans b.2 a.2⟩
theorem rdDta_suf {α : Type} {f : List Nat → Nat → Option (α × List Nat × Nat)} (hf : Suf f) : Suf (rdDta f) := fun l p x m q h => by
  simp only [rdDta] at h
  split at h
  · cases h
  · rename_i h1
    split at h
    · have a := rdCnt_len h1
      have b := rdRowP_suf hf _ _ _ _ _ _ h
      exact ⟨b.1.trans a.2.2, by omega⟩
    · cases h
theorem rdRst_suf {α : Type} {f : List Nat → Nat → Option (α × List Nat × Nat)} (hf : Suf f) : Suf (rdRst f) := fun l p x m q h => by
  simp only [rdRst] at h
  split at h
  · cases h
  · rename_i h1
    have a := rdFlag_len h1
    split at h
    · split at h
      · split at h
        · cases h
        · rename_i h2
          cases h
          have b := hf _ _ _ _ _ h2
          exact ⟨b.1.trans a.2, by omega⟩
      · cases h
    · cases h
      exact ⟨a.2, Nat.le_refl _⟩
theorem rdTxt_suf {l m : List Nat} {s : ByteArray} (h : rdTxt l = some (s, m)) : m <:+ l := by
  unfold rdTxt at h
  split at h
  · cases h
  · rename_i hn
    cases h
    exact (List.drop_suffix _ _).trans (rdCnt_len hn).2.2
theorem rdLimb_suf {l m : List Nat} {n : Nat} (h : rdLimb l = some (n, m)) : m <:+ l ∧ n ≤ 4294967295 := by
  unfold rdLimb at h
  split at h
  · cases h
  · rename_i hn
    split at h
    · rename_i hq
      cases h
      exact ⟨(rdG_suf _ _ _ _ _ _ hn).2.1, hq⟩
    · cases h
theorem rdRow_limb : ∀ (n : Nat) (l : List Nat) (xs : List Nat) (m : List Nat), rdRow rdLimb n l = some (xs, m) → m <:+ l ∧ ∀ x, x ∈ xs → x < 4294967296
  | 0, l, xs, m, h => by
    rw [rdRow_zero] at h
    cases h
    exact ⟨List.suffix_refl _, fun x hx => by cases hx⟩
  | n + 1, l, xs, m, h => by
    simp only [rdRow] at h
    split at h
    · cases h
    · rename_i h1
      split at h
      · cases h
      · rename_i h2
        cases h
        have a := rdLimb_suf h1
        have b := rdRow_limb n _ _ _ h2
        refine ⟨b.1.trans a.1, fun x hx => ?_⟩
        rcases List.mem_cons.1 hx with e | e
        · subst e; omega
        · exact b.2 x e
theorem rdMag_suf {l m : List Nat} {x : Bool × List Nat} (h : rdMag l = some (x, m)) : m <:+ l ∧ ∀ y, y ∈ x.2 → y < 4294967296 := by
  unfold rdMag at h
  split at h
  · cases h
  · rename_i h1
    split at h
    · cases h
    · rename_i h2
      split at h
      · cases h
      · rename_i h3
        cases h
        have c := rdRow_limb _ _ _ _ h3
        exact ⟨c.1.trans ((rdCnt_len h2).2.2.trans (rdFlag_len h1).2), c.2⟩
theorem rdFld_suf {h : Nat} {f : List Nat → Nat → Option (Tr h × List Nat × Nat)} (hf : Suf f) (k : Nat) : Suf (rdFld f k) := fun l p x m q hx => by
  simp only [rdFld] at hx
  split at hx
  · split at hx
    · cases hx
    · rename_i h1
      cases hx
      exact ⟨(rdMag_suf h1).1, Nat.le_refl _⟩
  · split at hx
    · split at hx
      · cases hx
      · rename_i h1
        cases hx
        exact ⟨(rdSgn_suf h1).2, Nat.le_refl _⟩
    · split at hx
      · split at hx
        · cases hx
        · rename_i h1
          cases hx
          exact ⟨rdTxt_suf h1, Nat.le_refl _⟩
      · split at hx
        · split at hx
          · cases hx
          · rename_i h1
            split at hx
            · cases hx
            · rename_i h2
              cases hx
              exact ⟨(rdSgn_suf h2).2.trans (rdTxt_suf h1), Nat.le_refl _⟩
        · split at hx
          · split at hx
            · cases hx
            · rename_i h1
              split at hx
              · cases hx
              · rename_i h2
                cases hx
                have a := rdDta_suf hf _ _ _ _ _ h1
                have b := rdRst_suf hf _ _ _ _ _ h2
                exact ⟨b.1.trans a.1, Nat.le_trans b.2 a.2⟩
          · split at hx
            · split at hx
              · cases hx
              · rename_i h1
                cases hx
                exact rdDta_suf hf _ _ _ _ _ h1
            · cases hx
              exact ⟨List.suffix_refl _, Nat.le_refl _⟩
theorem rdDat_suf : ∀ (h dp : Nat), Suf (rdDat h dp)
  | 0, _, l, p, x, m, q, hx => by cases hx
  | h + 1, 0, l, p, x, m, q, hx => by cases hx
  | h + 1, dp + 1, l, p, x, m, q, hx => by
    simp only [rdDat] at hx
    split at hx
    · cases hx
    · rename_i h1
      split at hx
      · cases hx
      · rename_i h2
        split at hx
        · cases hx
          have a := rdFld_suf (rdDat_suf h dp) _ _ _ _ _ _ h2
          exact ⟨a.1.trans (rdG_suf _ _ _ _ _ _ h1).2.1, a.2⟩
        · cases hx

theorem FR.pushAt {E : TypeId} {w : World} {g N o : Nat} {cs : List Value} (h : FR E w g N cs) (x : Value) (ho : cs.length = o) (hl : o < N) : FR E (w.setCell ⟨g, o, none⟩ x) g N (cs ++ [x]) := by
  subst ho
  exact h.push x hl
theorem wpList_mkD {w : World} {ops : Array Oper} {rest : List Oper} {o : Oper} {a : Act} {Q : Exit → Act → World → Prop}
    (hg : o.guard = none) (l c : Operand) (hop : o.op = Op.makeSlice 45 l c)
    (kl kc : IntKind) (L C : Int) (n : Nat) (hl : a.eval l = .int kl L) (hc : a.eval c = .int kc C) (hL : L = (n : Int)) (hC : C = (n : Int)) (b2 : 112 * n ≤ 281474976710656)
    (hK : ∀ w', FR 64 w' w.heap.size (n * 7) [] → Fr (fun _ => False) w w' → w.heap.size < w'.heap.size → wpList Try.prog ops Q rest (a.put o.dst (.slice (some ⟨w.heap.size, 0, none⟩) n n)) w') :
    wpList Try.prog ops Q (o :: rest) a w := by
  obtain ⟨i, hi, hz0, hz1, hz2⟩ := info_parts infoD
  refine wpList_make_full w hg l c 45 hop w.heap.size 64 i _ 7 Try.underlying45 hi hz0 hz1 kl kc L C n hl hc hL hC (by rw [hz2]; exact b2) (by unfold maxLen; omega) (Nat.le_refl _) ?_
  intro w' hown hgrow
  have hR : FR 64 w' w.heap.size (n * 7) [] := by
    rcases hown.2 with ⟨e, _⟩ | ⟨g, cap, cur, e, h1, h2, h3, h4, h5, h6⟩
    · cases e
    · cases e
      exact ⟨cur, h2, h5, rfl⟩
  exact hK w' hR ((Fr.refl _ w).grow hgrow (fun k _ e => by cases e)) hR.lt
/-- A row of data that is being filled. -/
structure RD7 {h : Nat} (w : World) (g N : Nat) (ys : List (Tr h)) (cs : List Value) : Prop where
  fr : FR 64 w g N cs
  len : cs.length = ys.length * 7
  it : ∀ j (hj : j < ys.length), DatQ (fun b => g < b) w h ys[j] (seven cs j)
theorem RD7.keep {h : Nat} {w w' : World} {g N rb : Nat} {ys : List (Tr h)} {cs : List Value} (H : RD7 w g N ys cs) (F : Fr (fun j => j = rb) w w') (hrb : rb < g) : RD7 w' g N ys cs :=
  ⟨H.fr.fr F (by omega), H.len, fun j hj => (H.it j hj).keep (fun k hk hq => F.block k hk (by omega)) (fun _ _ hq => hq)⟩
theorem RD7.next {h : Nat} {w w' : World} {g N : Nat} {ys : List (Tr h)} {cs : List Value} {y : Tr h} {c0 c1 c2 c3 c4 c5 c6 : Value} (H : RD7 w g N ys cs) (hw : ∀ k, g < k → w'.heap[k]? = w.heap[k]?) (hf : FR 64 w' g N (cs ++ [c0, c1, c2, c3, c4, c5, c6])) (hy : DatQ (fun b => g < b) w h y [c0, c1, c2, c3, c4, c5, c6]) : RD7 w' g N (ys ++ [y]) (cs ++ [c0, c1, c2, c3, c4, c5, c6]) := by
  refine ⟨hf, by simp [H.len]; omega, fun j hj => ?_⟩
  by_cases e : j = ys.length
  · subst e
    rw [seven_new H.len rfl, List.getElem_concat_length rfl]
    exact hy.keep (fun k _ hq => hw k hq) (fun _ _ hq => hq)
  · have hj' : j < ys.length := by simp at hj; omega
    rw [seven_old H.len hj', List.getElem_append_left hj']
    exact (H.it j hj').keep (fun k _ hq => hw k hq) (fun _ _ hq => hq)
theorem RD7.row {h : Nat} {w : World} {g : Nat} {ys : List (Tr h)} {cs : List Value} (H : RD7 w g (ys.length * 7) ys cs) (hn : ys.length ≤ 100000000) : RowD w (DatQ (fun b => g ≤ b) w h) (.slice (some ⟨g, 0, none⟩) ys.length ys.length) ys := by
  obtain ⟨cur, h1, h2, h3⟩ := H.fr
  refine ⟨_, _, rfl, Nat.le_refl _, by omega, .inr ⟨g, 0, rfl, fun i hi => ⟨seven cs i, ?_, fun j hj => ?_, (H.it i hi).keep (fun _ _ _ => rfl) (fun _ _ hq => by omega)⟩⟩⟩
  · unfold seven
    rw [List.length_take, List.length_drop, H.len]
    omega
  · rw [cell_of_row w g _ cur _ _ h1, ← Array.getElem?_toList, Nat.zero_add]
    unfold seven
    rw [List.getElem?_take, if_pos hj, List.getElem?_drop]
    have := congrArg (fun l : List Value => l[i * 7 + j]?) h3
    simp only [List.getElem?_take] at this
    rw [if_pos (by rw [H.len]; omega)] at this
    exact this
def okDs {h : Nat} (w0 : World) (rb B : Nat) (x : List (Tr h) × List Nat × Nat) (e : Ending) (w' : World) : Prop := ∃ v, e = .returned v ∧ RowD w' (DatQ (fun b => B ≤ b) w' h) v x.1 ∧ VQ (fun b => B ≤ b) v x.1.length ∧ RS w0 w' rb x.2.1 x.2.2
/-- Seven cells of a row are set. -/
def setN (w : World) (g o : Nat) (c0 c1 c2 c3 c4 c5 c6 : Value) : World := (((((((w).setCell ⟨g, o, none⟩ c0).setCell ⟨g, o + 1, none⟩ c1).setCell ⟨g, o + 2, none⟩ c2).setCell ⟨g, o + 3, none⟩ c3).setCell ⟨g, o + 4, none⟩ c4).setCell ⟨g, o + 5, none⟩ c5).setCell ⟨g, o + 6, none⟩ c6
theorem setN_fr {S : Nat → Prop} {w w' : World} {g : Nat} (F : Fr S w w') (hB : w.heap.size ≤ g) (o : Nat) (c0 c1 c2 c3 c4 c5 c6 : Value) : Fr S w (setN w' g o c0 c1 c2 c3 c4 c5 c6) :=
  ((((((F.setCell (fun e => by omega) _ _).setCell (fun e => by omega) _ _).setCell (fun e => by omega) _ _).setCell (fun e => by omega) _ _).setCell (fun e => by omega) _ _).setCell (fun e => by omega) _ _).setCell (fun e => by omega) _ _
theorem setN_rs {w0 w : World} {rb p g : Nat} {l : List Nat} (h : RS w0 w rb l p) (hB : rb < g) (o : Nat) (c0 c1 c2 c3 c4 c5 c6 : Value) : RS w0 (setN w g o c0 c1 c2 c3 c4 c5 c6) rb l p := ((((((h.setO hB).setO hB).setO hB).setO hB).setO hB).setO hB).setO hB
theorem setN_other {w : World} {g k : Nat} (hk : k ≠ g) (o : Nat) (c0 c1 c2 c3 c4 c5 c6 : Value) : (setN w g o c0 c1 c2 c3 c4 c5 c6).heap[k]? = w.heap[k]? := by
  unfold setN
  rw [heap_setCell_other _ _ _ _ hk, heap_setCell_other _ _ _ _ hk, heap_setCell_other _ _ _ _ hk, heap_setCell_other _ _ _ _ hk, heap_setCell_other _ _ _ _ hk, heap_setCell_other _ _ _ _ hk, heap_setCell_other _ _ _ _ hk]

set_option maxRecDepth 20000 in
set_option maxHeartbeats 4000000 in
theorem rowD_any {h : Nat} (hC : DOK h) (w0 w : World) (rb p n dp b2 b3 : Nat) (l : List Nat) (hr : RS w0 w rb l p) (h8 : By8 l) (hl : l.length ≤ 100000000) (hp : p ≤ 20000) (hd : dp ≤ 100) (hh : dp ≤ h) (hb : BX w b2 b3 rb dp) (hn : n ≤ 100000000) :
    Calls Try.prog 75 #[.int .i64 (n : Int), .func (.func 76) #[] #[.pointer (some ⟨b2, 0, none⟩), .pointer (some ⟨b3, 0, none⟩)]] w fun e w' => RQ w rb (okDs w0 rb w.heap.size) (rdRowP (rdDat h dp) n l p) e w' := by
  obtain ⟨out, hout⟩ : ∃ o, o = rdRowP (rdDat h dp) n l p := ⟨_, rfl⟩
  rw [← hout]
  by_cases h0 : n = 0
  · subst h0
    have HO : Hid (out = some ([], l, p)) := hout
    have HRS := hide hr
    clear hr hout
    go_enter Try.func75, Try.ntmps75
    go_wp2
    go_ret
    exact RQ.mk' HO.out (Fr.refl _ _) ⟨_, rfl, ⟨none, 0, rfl, Nat.le_refl _, by decide, .inl rfl⟩, .inl rfl, HRS.out⟩
  · have g0 : ((n : Int) == 0) = false := by rw [beq_eq_false_iff_ne]; omega
    have HRS := hide hr
    have HOUT := hide hout
    have H8 := hide h8
    have HC := hide hC
    have HBX := hide hb
    have hrbl : rb < w.heap.size := hr.lt
    clear hr hout h8 hC hb
    go_enter Try.func75, Try.ntmps75
    go_wp2_with (at_make; refine wpList_mkD rfl _ _ rfl .i64 .i64 _ _ n rfl rfl rfl rfl (by omega) ?_; intro w1 R1 F1 hlt1; have HR1 := hide R1; have HF1 := hide F1; clear R1 F1)
    go_loopw [13] (fun c wr => ∃ (i : Nat) (xs : List (Tr h)) (cs : List Value) (m : List Nat) (q : Nat), i ≤ n ∧ c = .int .i64 (i : Int) ∧ xs.length = i ∧ RS w0 wr rb m q ∧ Fr (fun j => j = rb) w wr ∧ By8 m ∧ m.length ≤ 100000000 ∧ q ≤ 20000 ∧ RD7 wr w.heap.size (n * 7) xs cs ∧ out = moreP xs (rdRowP (rdDat h dp) (n - i) m q)) (fun c _ => n - (intOf c).toNat)
    case atStart => exact ⟨0, [], [], l, p, Nat.zero_le _, rfl, rfl, HRS.out.mono HF1.out.upw2, HF1.out.mono (fun _ _ e => e.elim), H8.out, hl, hp, ⟨HR1.out, rfl, fun j hj => by cases hj⟩, by rw [moreP_nil]; exact HOUT.out⟩
    case round =>
      clear HRS HOUT H8 HR1 HF1
      obtain ⟨i, xs, cs, m, q, hi, rfl, hxl, hrs, hF, hm8, hml, hq, hR, ho⟩ := hrel
      by_cases hil : i < n
      · have hiI : (i : Int) < (n : Int) := by omega
        rw [show n - i = (n - (i + 1)) + 1 by omega] at ho
        have HFF := hide hF
        have HR := hide hR
        have hbx := HBX.out.fr hF
        cases hx : rdDat h dp m q with
        | none =>
          have K := hide (data1_no HC.out w0 wr rb q dp b2 b3 m hrs hm8 hml hq hd hh hbx hx)
          have HO : Hid (out = none) := ho.trans (moreP_no hx)
          clear hrs hF hR ho hx hbx
          go_wp2_with (go_at_call 76; refine K.out.mono ?_; rintro e2 w2 ⟨rfl, F2⟩; have HF2 := hide (HFF.out.trans F2 (fun _ _ e => e)); clear F2)
          exact ⟨rfl, RQ.mkno HO.out HF2.out⟩
        | some y =>
          obtain ⟨x, m2, q2⟩ := y
          have K := hide (data1_yes HC.out w0 wr rb q dp b2 b3 m hrs hm8 hml hq hd hh hbx (x, m2, q2) hx)
          have HO : Hid (out = moreP (xs ++ [x]) (rdRowP (rdDat h dp) (n - (i + 1)) m2 q2)) := ho.trans (moreP_yes hx)
          have hsf := rdDat_suf h dp _ _ _ _ _ hx
          have HM8 : Hid (By8 m2 ∧ m2.length ≤ 100000000 ∧ q2 ≤ 20000) := ⟨hm8.suf hsf.1, Nat.le_trans hsf.1.length_le hml, Nat.le_trans hsf.2 hq⟩
          have HCL : Hid (cs.length = i * 7) := by unfold Hid; rw [hR.len, hxl]
          have HSZ : Hid (w.heap.size < wr.heap.size) := hR.fr.lt
          clear hrs hF hR ho hx hbx hsf
          go_wp2_with (go_at_call 76; refine K.out.mono ?_; rintro e2 w2 ⟨⟨kk, nn, bb, m1, m2', m3, tt, i1, i2, i3, r1, r2, r3, rfl, hq2, hr2⟩, F2⟩; have HF2 := hide (HFF.out.trans F2 (fun _ _ e => e)); have R7 := HR.out.keep F2 hrbl; have R2 := R7.fr; have P0 := R2.pushAt (o := i * 7) (.int .i64 kk) (by simp [HCL.out]) (by omega); obtain ⟨u0, z0⟩ := R2.some (i := i * 7) (by omega); have t0 := R2.fz (i * 7); have P1 := P0.pushAt (o := i * 7 + 1) (.int .i64 nn) (by simp [HCL.out]) (by omega); obtain ⟨u1, z1⟩ := P0.some (i := i * 7 + 1) (by omega); have t1 := P0.fz (i * 7 + 1); have P2 := P1.pushAt (o := i * 7 + 2) (.bool bb) (by simp [HCL.out]) (by omega); obtain ⟨u2, z2⟩ := P1.some (i := i * 7 + 2) (by omega); have t2 := P1.fz (i * 7 + 2); have P3 := P2.pushAt (o := i * 7 + 3) (.slice m1 m2' m3) (by simp [HCL.out]) (by omega); obtain ⟨u3, z3⟩ := P2.some (i := i * 7 + 3) (by omega); have t3 := P2.fz (i * 7 + 3); have P4 := P3.pushAt (o := i * 7 + 4) (.string tt) (by simp [HCL.out]) (by omega); obtain ⟨u4, z4⟩ := P3.some (i := i * 7 + 4) (by omega); have t4 := P3.fz (i * 7 + 4); have P5 := P4.pushAt (o := i * 7 + 5) (.slice i1 i2 i3) (by simp [HCL.out]) (by omega); obtain ⟨u5, z5⟩ := P4.some (i := i * 7 + 5) (by omega); have t5 := P4.fz (i * 7 + 5); have P6 := P5.pushAt (o := i * 7 + 6) (.slice r1 r2 r3) (by simp [HCL.out]) (by omega); obtain ⟨u6, z6⟩ := P5.some (i := i * 7 + 6) (by omega); have t6 := P5.fz (i * 7 + 6); have HP6 := hide P6; have HR7 := hide R7; have HQ2 := hide hq2; have HRS2 := hide hr2; clear F2 hr2 hq2 R7 R2 P0 P1 P2 P3 P4 P5 P6)
          refine ⟨⟨i + 1, xs ++ [x], cs ++ [.int .i64 kk, .int .i64 nn, .bool bb, .slice m1 m2' m3, .string tt, .slice i1 i2 i3, .slice r1 r2 r3], m2, q2, hil, by go_num, by simp [hxl], setN_rs HRS2.out hrbl (i * 7) _ _ _ _ _ _ _, setN_fr HF2.out (Nat.le_refl _) (i * 7) _ _ _ _ _ _ _, HM8.out.1, HM8.out.2.1, HM8.out.2.2, ?_, HO.out⟩, by simp [intOf]; omega⟩
          refine HR7.out.next (fun k hk => setN_other (by omega) (i * 7) _ _ _ _ _ _ _) ?_ (HQ2.out.keep (fun _ _ _ => rfl) (fun k _ hq => by have := HSZ.out; omega))
          simpa using HP6.out
      · have e : i = n := by omega
        subst e
        have hil' : ¬ ((i : Int) < (i : Int)) := by omega
        rw [Nat.sub_self, rdRowP_zero] at ho
        have HO : Hid (out = some (xs, m, q)) := by
          unfold Hid
          rw [ho]
          simp [moreP]
        have HFF := hide hF
        have HRS := hide hrs
        have HRR : Hid (RowD wr (DatQ (fun b => w.heap.size ≤ b) wr h) (.slice (some ⟨w.heap.size, 0, none⟩) i i) xs) := by
          have := RD7.row (by rw [hxl]; exact hR) (by omega)
          rw [hxl] at this
          exact this
        clear hrs hF hR ho hil
        go_wp2
        go_ret
        exact RQ.mk' HO.out HFF.out ⟨_, rfl, HRR.out, .inr ⟨_, _, _, rfl, Nat.le_refl _⟩, HRS.out⟩

def DTOK (h : Nat) : Prop := ∀ (w0 w : World) (rb p dp : Nat) (l : List Nat), RS w0 w rb l p → By8 l → l.length ≤ 100000000 → p ≤ 20000 → dp ≤ 100 → dp ≤ h →
  Calls Try.prog 65 #[.pointer (some ⟨rb, 0, none⟩), .int .i64 (dp : Int)] w fun e w' => RQ w rb (okDs w0 rb w.heap.size) (rdDta (rdDat h dp) l p) e w'
def RTOKr (h : Nat) : Prop := ∀ (w0 w : World) (rb p dp : Nat) (l : List Nat), RS w0 w rb l p → By8 l → l.length ≤ 100000000 → p ≤ 20000 → dp ≤ 100 → dp ≤ h →
  Calls Try.prog 83 #[.pointer (some ⟨rb, 0, none⟩), .int .i64 (dp : Int)] w fun e w' => RQ w rb (okDs w0 rb w.heap.size) (rdRst (rdDat h dp) l p) e w'
theorem okDs.le {h : Nat} {w0 : World} {rb B B' : Nat} {x : List (Tr h) × List Nat × Nat} {e : Ending} {w' : World} (H : okDs w0 rb B x e w') (hB : B' ≤ B) : okDs w0 rb B' x e w' := by
  obtain ⟨v, e1, h1, h2, h3⟩ := H
  exact ⟨v, e1, h1.mono (fun _ _ q => q.keep (fun _ _ _ => rfl) (fun _ _ hq => by omega)), h2.imp id (fun ⟨a, l, c, ea, hq⟩ => ⟨a, l, c, ea, by omega⟩), h3⟩

set_option maxRecDepth 20000 in
set_option maxHeartbeats 2000000 in
theorem data_of {h : Nat} (hC : DOK h) : DTOK h := by
  intro w0 w rb p dp l hr h8 hl hp hd hh
  have hmf : ∀ (fn : Fn) (first cap : Array Value) (w : World), (Instr.makeFunc fn first cap).run Try.prog w = .ok (.func fn first cap) w := fun _ _ _ _ => rfl
  have hrb := hr.lt
  obtain ⟨W0, hW0⟩ : ∃ W0, W0 = (w.alloc (.cells #[.pointer (some ⟨rb, 0, none⟩)] 91)).alloc (.cells #[.int .i64 (dp : Int)] 3) := ⟨_, rfl⟩
  have hB : BX W0 w.heap.size (w.heap.size + 1) rb dp := by
    rw [hW0]
    refine ⟨(heap_alloc_old _ _ (by simp)).trans (heap_alloc_new w _), ?_, by omega, by omega⟩
    have := heap_alloc_new (w.alloc (.cells #[.pointer (some ⟨rb, 0, none⟩)] 91)) (.cells #[.int .i64 (dp : Int)] 3)
    rw [World.size_alloc] at this
    exact this
  have hF0 : Fr (fun j => j = rb) w W0 := by rw [hW0]; exact ((Fr.refl _ w).alloc _).alloc _
  have hR0 : RS w0 W0 rb l p := by rw [hW0]; exact hr.mono ((up_alloc w _).tr (up_alloc _ _))
  have y2 : W0.cell? ⟨w.heap.size, 0, none⟩ = some (.pointer (some ⟨rb, 0, none⟩)) := by rw [cell_of_row _ _ 0 _ _ _ hB.1]; rfl
  have HW := hide hW0
  have HB := hide hB
  have HF0 := hide hF0
  have HY := hide (fun (W : World) (hb : BX W w.heap.size (w.heap.size + 1) rb dp) => show W.cell? ⟨w.heap.size, 0, none⟩ = some (.pointer (some ⟨rb, 0, none⟩)) by rw [cell_of_row _ _ 0 _ _ _ hb.1]; rfl)
  obtain ⟨out, ho⟩ : ∃ o, o = rdDta (rdDat h dp) l p := ⟨_, rfl⟩
  rw [← ho]
  cases h1 : rdCnt 1 l with
  | none =>
    have K1 := hide ((rdcnt_any w0 W0 rb p 1 l hR0 h8 (by decide) (by decide)).mono (fun _ _ q => q.no h1))
    have HO : Hid (out = none) := by unfold Hid; rw [ho]; unfold rdDta; rw [h1]
    clear hr hB hF0 hR0 h1 hW0 h8 ho hC
    go_enter Try.func65, Try.ntmps65
    go_wp2_with fail
    rw [← HW.out]
    go_wp2_with (go_at_call 49; refine K1.out.mono ?_; rintro e1 w1 ⟨rfl, F1⟩; have HF1 := hide (HF0.out.trans F1 (fun _ _ e => e)); clear F1)
    exact ⟨rfl, RQ.mkno HO.out HF1.out⟩
  | some x =>
    obtain ⟨n, m⟩ := x
    obtain ⟨hl1, hn1, hs1⟩ := rdCnt_len h1
    rw [Nat.div_one] at hn1
    have h81 := h8.suf hs1
    have K1 := hide ((rdcnt_any w0 W0 rb p 1 l hR0 h8 (by decide) (by decide)).mono (fun _ _ q => q.yes h1))
    have HO : out = if n ≤ p then rdRowP (rdDat h dp) n m (p - n) else none := by rw [ho]; unfold rdDta; rw [h1]
    by_cases hq : n ≤ p
    · have K2 := hide (fun (W : World) (h' : RS w0 W rb m p) => (spend_any w0 W rb p n m h' hp (by omega)).mono (fun _ _ q => q.yes (if_pos hq)))
      have hK3 := fun (W : World) (h' : RS w0 W rb m (p - n)) (hb : BX W w.heap.size (w.heap.size + 1) rb dp) => rowD_any hC w0 W rb (p - n) n dp w.heap.size (w.heap.size + 1) m h' h81 (by omega) (by omega) hd hh hb (by omega)
      rw [if_pos hq] at HO
      rw [← HO] at hK3
      have HLE : Hid (∀ W : World, Fr (fun j => j = rb) w W → w.heap.size ≤ W.heap.size) := fun W F => F.size
      cases ho2 : out with
      | none =>
        have K3 := hide (fun (W : World) (h' : RS w0 W rb m (p - n)) (hb : BX W w.heap.size (w.heap.size + 1) rb dp) => (hK3 W h' hb).mono (fun _ _ q => q.no ho2))
        clear hK3 HO hr hB hF0 hR0 h1 hW0 h8 h81 ho hC hl1 hn1 hs1 ho2
        go_enter Try.func65, Try.ntmps65
        go_wp2_with fail
        rw [← HW.out]
        go_wp2_with (first
          | (go_at_call 49; refine K1.out.mono ?_; rintro e1 w1 ⟨⟨rfl, hr1⟩, F1⟩; have HB1 := hide (HB.out.fr F1); have z1 := HY.out _ HB1.out; have HR1 := hide hr1; have HF1 := hide (HF0.out.trans F1 (fun _ _ e => e)); clear F1 hr1)
          | (go_at_call 74; refine (K2.out _ HR1.out).mono ?_; rintro e2 w2 ⟨⟨rfl, hr2⟩, F2⟩; have HB2 := hide (HB1.out.fr F2); have HR2 := hide hr2; have HF2 := hide (HF1.out.trans F2 (fun _ _ e => e)); clear F2 hr2)
          | (go_at_call 75; refine (K3.out _ HR2.out HB2.out).mono ?_; rintro e3 w3 ⟨rfl, F3⟩; have HF3 := hide (HF2.out.trans F3 (fun _ _ e => e)); clear F3))
        exact ⟨rfl, RQ.mkno rfl HF3.out⟩
      | some y =>
        have K3 := hide (fun (W : World) (h' : RS w0 W rb m (p - n)) (hb : BX W w.heap.size (w.heap.size + 1) rb dp) => (hK3 W h' hb).mono (fun _ _ q => q.yes ho2))
        clear hK3 HO hr hB hF0 hR0 h1 hW0 h8 h81 ho hC hl1 hn1 hs1 ho2
        go_enter Try.func65, Try.ntmps65
        go_wp2_with fail
        rw [← HW.out]
        go_wp2_with (first
          | (go_at_call 49; refine K1.out.mono ?_; rintro e1 w1 ⟨⟨rfl, hr1⟩, F1⟩; have HB1 := hide (HB.out.fr F1); have z1 := HY.out _ HB1.out; have HR1 := hide hr1; have HF1 := hide (HF0.out.trans F1 (fun _ _ e => e)); clear F1 hr1)
          | (go_at_call 74; refine (K2.out _ HR1.out).mono ?_; rintro e2 w2 ⟨⟨rfl, hr2⟩, F2⟩; have HB2 := hide (HB1.out.fr F2); have HR2 := hide hr2; have HF2 := hide (HF1.out.trans F2 (fun _ _ e => e)); clear F2 hr2)
          | (go_at_call 75; refine (K3.out _ HR2.out HB2.out).mono ?_; rintro e3 w3 ⟨⟨v3, rfl, hv3⟩, F3⟩; have HV3 := hide hv3; have HF3 := hide (HF2.out.trans F3 (fun _ _ e => e)); clear F3 hv3))
        go_ret
        exact RQ.mk' rfl HF3.out (okDs.le ⟨v3, rfl, HV3.out⟩ (HLE.out _ HF2.out))
    · have K2 := hide (fun (W : World) (h' : RS w0 W rb m p) => (spend_any w0 W rb p n m h' hp (by omega)).mono (fun _ _ q => q.no (if_neg hq)))
      rw [if_neg hq] at HO
      have HO := hide HO
      clear hr hB hF0 hR0 h1 hW0 h8 h81 ho hC hl1 hn1 hs1
      go_enter Try.func65, Try.ntmps65
      go_wp2_with fail
      rw [← HW.out]
      go_wp2_with (first
        | (go_at_call 49; refine K1.out.mono ?_; rintro e1 w1 ⟨⟨rfl, hr1⟩, F1⟩; have HB1 := hide (HB.out.fr F1); have z1 := HY.out _ HB1.out; have HR1 := hide hr1; have HF1 := hide (HF0.out.trans F1 (fun _ _ e => e)); clear F1 hr1)
        | (go_at_call 74; refine (K2.out _ HR1.out).mono ?_; rintro e2 w2 ⟨rfl, F2⟩; have HF2 := hide (HF1.out.trans F2 (fun _ _ e => e)); clear F2))
      exact ⟨rfl, RQ.mkno HO.out HF2.out⟩

theorem hrow1 {h : Nat} {w1 : World} {B : Nat} {d : Tr h} {kk nn : Int} {bb : Bool} {m1 : Option Addr} {m2 m3 : Nat} {tt : ByteArray} {i1 : Option Addr} {i2 i3 : Nat} {r1 : Option Addr} {r2 r3 : Nat} (hB : B ≤ w1.heap.size) (hq : DatQ (fun b => B ≤ b) w1 h d [.int .i64 kk, .int .i64 nn, .bool bb, .slice m1 m2 m3, .string tt, .slice i1 i2 i3, .slice r1 r2 r3]) :
    RowD (w1.alloc (.cells #[.int .i64 kk, .int .i64 nn, .bool bb, .slice m1 m2 m3, .string tt, .slice i1 i2 i3, .slice r1 r2 r3] 64)) (DatQ (fun b => B ≤ b) (w1.alloc (.cells #[.int .i64 kk, .int .i64 nn, .bool bb, .slice m1 m2 m3, .string tt, .slice i1 i2 i3, .slice r1 r2 r3] 64)) h) (.slice (some ⟨w1.heap.size, 0, none⟩) 1 1) [d] ∧ VQ (fun b => B ≤ b) (.slice (some ⟨w1.heap.size, 0, none⟩) 1 1) 1 := by
  refine ⟨⟨_, _, rfl, Nat.le_refl _, by decide, .inr ⟨w1.heap.size, 0, rfl, fun i hi => ⟨[.int .i64 kk, .int .i64 nn, .bool bb, .slice m1 m2 m3, .string tt, .slice i1 i2 i3, .slice r1 r2 r3], rfl, fun j hj => ?_, ?_⟩⟩⟩, .inr ⟨_, _, _, rfl, hB⟩⟩
  · have : i = 0 := by simp at hi; omega
    subst this
    rw [Nat.zero_mul, Nat.add_zero, Nat.zero_add, cell_of_row _ _ j _ _ _ (heap_alloc_new w1 _)]
    simp
  · have : i = 0 := by simp at hi; omega
    subst this
    exact hq.keep (fun k hk _ => heap_alloc_old _ _ hk) (fun _ _ hq => hq)
set_option maxRecDepth 20000 in
set_option maxHeartbeats 2000000 in
theorem rest_of {h : Nat} (hC : DOK h) : RTOKr h := by
  intro w0 w rb p dp l hr h8 hl hp hd hh
  obtain ⟨out, ho⟩ : ∃ o, o = rdRst (rdDat h dp) l p := ⟨_, rfl⟩
  rw [← ho]
  cases h1 : rdFlag l with
  | none =>
    have K1 := hide ((rdflag_any w0 w rb p l hr).mono (fun _ _ q => q.no h1))
    have HO : Hid (out = none) := by unfold Hid; rw [ho]; unfold rdRst; rw [h1]
    clear hr h1 h8 ho hC
    go_enter Try.func83, Try.ntmps83
    go_wp2_with (go_at_call 62; refine K1.out.mono ?_; rintro e1 w1 ⟨rfl, F1⟩; have HF1 := hide F1; clear F1)
    exact ⟨rfl, RQ.mkno HO.out HF1.out⟩
  | some x =>
    obtain ⟨b, m⟩ := x
    obtain ⟨hl1, hs1⟩ := rdFlag_len h1
    have h81 := h8.suf hs1
    have K1 := hide ((rdflag_any w0 w rb p l hr).mono (fun _ _ q => q.yes h1))
    cases b with
    | false =>
      have HO : Hid (out = some ([], m, p)) := by unfold Hid; rw [ho]; unfold rdRst; rw [h1]; rfl
      clear hr h1 h8 ho hC
      go_enter Try.func83, Try.ntmps83
      go_wp2_with (go_at_call 62; refine K1.out.mono ?_; rintro e1 w1 ⟨⟨rfl, hr1⟩, F1⟩; have HR1 := hide hr1; have HF1 := hide F1; clear F1 hr1)
      go_ret
      exact RQ.mk' HO.out HF1.out ⟨_, rfl, ⟨none, 0, rfl, Nat.le_refl _, by decide, .inl rfl⟩, .inl rfl, HR1.out⟩
    | true =>
      have HO : out = if 1 ≤ p then (match rdDat h dp m (p - 1) with | none => none | some (d, k, q) => some ([d], k, q)) else none := by rw [ho]; unfold rdRst; rw [h1]; simp only [if_true]; cases rdDat h dp m (p - 1) <;> rfl
      by_cases hq : 1 ≤ p
      · rw [if_pos hq] at HO
        have K2 := hide (fun (W : World) (h' : RS w0 W rb m p) => (spend_any w0 W rb p 1 m h' hp (by decide)).mono (fun _ _ q => q.yes (if_pos hq)))
        have hK3 := fun (W : World) (h' : RS w0 W rb m (p - 1)) => hC w0 W rb (p - 1) dp m h' h81 (by omega) (by omega) hd hh
        cases h3 : rdDat h dp m (p - 1) with
        | none =>
          rw [h3] at HO
          have K3 := hide (fun (W : World) (h' : RS w0 W rb m (p - 1)) => (hK3 W h').mono (fun _ _ q => q.no h3))
          have HO := hide HO
          clear hK3 hr h1 h8 h81 ho hC h3 hl1 hs1
          go_enter Try.func83, Try.ntmps83
          go_wp2_with (first
            | (go_at_call 62; refine K1.out.mono ?_; rintro e1 w1 ⟨⟨rfl, hr1⟩, F1⟩; have HR1 := hide hr1; have HF1 := hide F1; clear F1 hr1)
            | (go_at_call 74; refine (K2.out _ HR1.out).mono ?_; rintro e2 w2 ⟨⟨rfl, hr2⟩, F2⟩; have HR2 := hide hr2; have HF2 := hide (HF1.out.trans F2 (fun _ _ e => e)); clear F2 hr2)
            | (go_at_call 77; refine (K3.out _ HR2.out).mono ?_; rintro e3 w3 ⟨rfl, F3⟩; have HF3 := hide (HF2.out.trans F3 (fun _ _ e => e)); clear F3))
          exact ⟨rfl, RQ.mkno HO.out HF3.out⟩
        | some y =>
          obtain ⟨d, k, q⟩ := y
          rw [h3] at HO
          have K3 := hide (fun (W : World) (h' : RS w0 W rb m (p - 1)) => (hK3 W h').mono (fun _ _ q => q.yes h3))
          have HO := hide HO
          have HLE : Hid (∀ W : World, Fr (fun j => j = rb) w W → w.heap.size ≤ W.heap.size) := fun W F => F.size
          clear hK3 hr h1 h8 h81 ho hC h3 hl1 hs1
          go_enter Try.func83, Try.ntmps83
          go_wp2_with (first
            | (go_at_call 62; refine K1.out.mono ?_; rintro e1 w1 ⟨⟨rfl, hr1⟩, F1⟩; have HR1 := hide hr1; have HF1 := hide F1; clear F1 hr1)
            | (go_at_call 74; refine (K2.out _ HR1.out).mono ?_; rintro e2 w2 ⟨⟨rfl, hr2⟩, F2⟩; have HR2 := hide hr2; have HF2 := hide (HF1.out.trans F2 (fun _ _ e => e)); clear F2 hr2)
            | (go_at_call 77; refine (K3.out _ HR2.out).mono ?_; rintro e3 w3 ⟨⟨kk, nn, bb, m1, m2, m3, tt, i1, i2, i3, r1, r2, r3, rfl, hq3, hr3⟩, F3⟩; have HQ3 := hide hq3; have HR3 := hide hr3; have HF3 := hide (HF2.out.trans F3 (fun _ _ e => e)); clear F3 hq3 hr3))
          go_ret
          have hle := HLE.out _ HF2.out
          have hle3 := HLE.out _ HF3.out
          have hrow := hrow1 (B := w.heap.size) hle3 (HQ3.out.keep (fun _ _ _ => rfl) (fun _ _ hq => by omega))
          exact RQ.mk' HO.out (HF3.out.alloc _) ⟨_, rfl, hrow.1, hrow.2, HR3.out.mono (up_alloc _ _)⟩
      · rw [if_neg hq] at HO
        have K2 := hide (fun (W : World) (h' : RS w0 W rb m p) => (spend_any w0 W rb p 1 m h' hp (by decide)).mono (fun _ _ q => q.no (if_neg hq)))
        have HO := hide HO
        clear hr h1 h8 h81 ho hC hl1 hs1
        go_enter Try.func83, Try.ntmps83
        go_wp2_with (first
          | (go_at_call 62; refine K1.out.mono ?_; rintro e1 w1 ⟨⟨rfl, hr1⟩, F1⟩; have HR1 := hide hr1; have HF1 := hide F1; clear F1 hr1)
          | (go_at_call 74; refine (K2.out _ HR1.out).mono ?_; rintro e2 w2 ⟨rfl, F2⟩; have HF2 := hide (HF1.out.trans F2 (fun _ _ e => e)); clear F2))
        exact ⟨rfl, RQ.mkno HO.out HF2.out⟩

end Go.Proofs.Ytilcigjhogcjkaa
