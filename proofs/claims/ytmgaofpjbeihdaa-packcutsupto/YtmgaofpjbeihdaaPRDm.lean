/-
  What is proved here: the reader's spend; what it makes of bytes as data (package pack).
-/
import Derived.Test.YtmgaofpjbeihdaaPRRowI
namespace Go.Proofs.Ytmgaofpjbeihdaa
open Go Go.RowKit

/-- So many of what f reads, with the parts that are left. -/
def rdRowP {α : Type} (f : List Nat → Nat → Option (α × List Nat × Nat)) : Nat → List Nat → Nat → Option (List α × List Nat × Nat)
  | 0, l, p => some ([], l, p)
  | n + 1, l, p => match f l p with
    | none => none
    | some (x, m, q) => match rdRowP f n m q with
      | none => none
      | some (xs, k, r) => some (x :: xs, k, r)
def moreP {α : Type} (xs : List α) (o : Option (List α × List Nat × Nat)) : Option (List α × List Nat × Nat) := match o with
  | none => none
  | some (ys, m, q) => some (xs ++ ys, m, q)
theorem rdRowP_zero {α : Type} (f : List Nat → Nat → Option (α × List Nat × Nat)) (l : List Nat) (p : Nat) : rdRowP f 0 l p = some ([], l, p) := rfl
theorem moreP_nil {α : Type} (o : Option (List α × List Nat × Nat)) : moreP [] o = o := by cases o <;> rfl
theorem moreP_no {α : Type} {f : List Nat → Nat → Option (α × List Nat × Nat)} {xs : List α} {k p : Nat} {l : List Nat} (h : f l p = none) : moreP xs (rdRowP f (k + 1) l p) = none := by
  show moreP xs (match f l p with | none => none | some (x, m, q) => match rdRowP f k m q with | none => none | some (xs, k, r) => some (x :: xs, k, r)) = none
  rw [h]
  rfl
theorem moreP_yes {α : Type} {f : List Nat → Nat → Option (α × List Nat × Nat)} {xs : List α} {k p q : Nat} {l m : List Nat} {x : α} (h : f l p = some (x, m, q)) : moreP xs (rdRowP f (k + 1) l p) = moreP (xs ++ [x]) (rdRowP f k m q) := by
  show moreP xs (match f l p with | none => none | some (x, m, q) => match rdRowP f k m q with | none => none | some (xs, k, r) => some (x :: xs, k, r)) = _
  rw [h]
  show moreP xs (match rdRowP f k m q with | none => none | some (xs, k, r) => some (x :: xs, k, r)) = _
  cases rdRowP f k m q with
  | none => rfl
  | some y => simp [moreP]
/-- Data, by what reads one of them. -/
def rdDta {α : Type} (f : List Nat → Nat → Option (α × List Nat × Nat)) (l : List Nat) (p : Nat) : Option (List α × List Nat × Nat) := match rdCnt 1 l with
  | none => none
  | some (n, m) => if n ≤ p then rdRowP f n m (p - n) else none
def rdRst {α : Type} (f : List Nat → Nat → Option (α × List Nat × Nat)) (l : List Nat) (p : Nat) : Option (List α × List Nat × Nat) := match rdFlag l with
  | none => none
  | some (b, m) => if b = true then (if 1 ≤ p then (match f m (p - 1) with
      | none => none
      | some (d, k, q) => some ([d], k, q)) else none) else some ([], m, p)
/-- A datum's fields, of a kind. -/
def rdFld {h : Nat} (f : List Nat → Nat → Option (Tr h × List Nat × Nat)) (k : Nat) (l : List Nat) (p : Nat) : Option (Tr (h + 1) × List Nat × Nat) :=
  if k = 1 then (match rdMag l with | none => none | some ((b, L), m) => some (((1 : Int), (0 : Int), b, L, ⟨#[]⟩, [], []), m, p))
  else if k = 2 ∨ k = 3 ∨ k = 9 then (match rdSgn l with | none => none | some (n, m) => some (((k : Int), n, false, [], ⟨#[]⟩, [], []), m, p))
  else if k = 4 then (match rdTxt l with | none => none | some (t, m) => some (((4 : Int), (0 : Int), false, [], t, [], []), m, p))
  else if k = 5 then (match rdTxt l with | none => none | some (t, m) => match rdSgn m with | none => none | some (n, m') => some (((5 : Int), n, false, [], t, [], []), m', p))
  else if k = 6 then (match rdDta f l p with | none => none | some (I, m, q) => match rdRst f m q with | none => none | some (R, m', q') => some (((6 : Int), (0 : Int), false, [], ⟨#[]⟩, I, R), m', q'))
  else if k = 7 then (match rdDta f l p with | none => none | some (I, m, q) => some (((7 : Int), (0 : Int), false, [], ⟨#[]⟩, I, []), m, q))
  else some (((k : Int), (0 : Int), false, [], ⟨#[]⟩, [], []), l, p)
/-- A datum, at a depth. -/
def rdDat : (h : Nat) → Nat → List Nat → Nat → Option (Tr h × List Nat × Nat)
  | 0, _, _, _ => none
  | _ + 1, 0, _, _ => none
  | h + 1, dp + 1, l, p => match rdNum l with
    | none => none
    | some (k, m) => match rdFld (rdDat h dp) k m p with
      | none => none
      | some (d, m', q) => if fit1 (h := h) d then some (d, m', q) else none

theorem RS.set1 {w0 w : World} {rb p q : Nat} {l : List Nat} (h : RS w0 w rb l p) : RS w0 (w.setCell ⟨rb, 1, none⟩ (.int .i64 (q : Int))) rb l q := by
  obtain ⟨hU, hrb, v, hB, hR⟩ := h
  exact ⟨⟨hU.os, hU.tape, hU.output, by simpa [World.setCell] using hU.size, fun k hk => (heap_setCell_other _ _ _ _ (by show k ≠ rb; omega)).trans (hU.block k hk)⟩, hrb, v, hB, hR.set1 q⟩
set_option maxRecDepth 20000 in
theorem spend_any (w0 w : World) (rb p n : Nat) (l : List Nat) (h : RS w0 w rb l p) (hp : p ≤ 20000) (hn : n ≤ 100000000) :
    Calls Try.prog 74 #[.pointer (some ⟨rb, 0, none⟩), .int .i64 (n : Int)] w fun e w' => RQ w rb (fun q e w' => e = .returned (.tuple #[]) ∧ RS w0 w' rb l q) (if n ≤ p then some (p - n) else none) e w' := by
  have x1 : w.cell? ⟨rb, 1, none⟩ = some (.int .i64 (p : Int)) := by obtain ⟨-, -, v, -, hR⟩ := h; exact hR.c1
  have x2 : w.frozen? ⟨rb, 1, none⟩ = false := by obtain ⟨-, -, v, -, hR⟩ := h; exact hR.fz 1
  obtain ⟨out, ho⟩ : ∃ o, o = (if n ≤ p then some (p - n) else none) := ⟨_, rfl⟩
  rw [← ho]
  have HO := hide ho
  clear ho
  by_cases hq : n ≤ p
  · have g1 : (n : Int) ≤ (p : Int) := by omega
    have HO2 : Hid (out = some (p - n)) := HO.out.trans (if_pos hq)
    have e1 : (p : Int) - (n : Int) = ((p - n : Nat) : Int) := by omega
    have HM := hide (fun (W : World) => must_yes W)
    have HR := hide (h.set1 (q := p - n))
    clear h
    go_enter Try.func74, Try.ntmps74
    go_wp2_with (go_at_call 46; refine (HM.out _).mono ?_; rintro e3 w3 ⟨rfl, hw⟩; replace hw := hw.symm; subst hw)
    go_end0
    exact RQ.mk' HO2.out (Fr.setCell (S := fun j => j = rb) (Fr.refl _ _) (fun _ => rfl) _ _) ⟨rfl, HR.out⟩
  · have HO2 : Hid (out = none) := HO.out.trans (if_neg hq)
    have g1 : ¬ ((n : Int) ≤ (p : Int)) := by omega
    have g2 : decide ((n : Int) ≤ (p : Int)) = false := decide_eq_false g1
    have HM := hide (fun (W : World) => must_no W)
    clear h
    go_enter Try.func74, Try.ntmps74
    go_wp2_with (go_at_call 46; refine (HM.out _).mono ?_; rintro e3 w3 ⟨rfl, hw⟩; replace hw := hw.symm; subst hw)
    exact ⟨rfl, RQ.mkno HO2.out (Fr.refl _ _)⟩

end Go.Proofs.Ytmgaofpjbeihdaa
