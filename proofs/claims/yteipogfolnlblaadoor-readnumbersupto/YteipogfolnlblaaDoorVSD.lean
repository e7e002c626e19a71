/-
  What is proved here: nothing; words: how data are written.
-/
import Derived.Test.YteipogfolnlblaaDoorWSData
namespace Go.Proofs.YteipogfolnlblaaDoor
open Go Go.RowKit

def hexd (v : Nat) : UInt8 := if v < 10 then (48 + v).toUInt8 else (87 + v).toUInt8

def two (v : Nat) : List UInt8 := [hexd (v / 16), hexd (v % 16)]

/-- A byte between quotes. -/
def tbW (b : UInt8) : List UInt8 :=
  if b = 34 ∨ b = 92 then [92, b] else if b = 10 then [92, 110] else if b = 9 then [92, 116] else if b < 32 ∨ 126 < b then 92 :: 120 :: (two b.toNat ++ [59]) else [b]

def tsW (l : List UInt8) : List UInt8 := l.flatMap tbW

/-- What is written of a character behind its mark. -/
def chW (n : Int) : List UInt8 :=
  if n = 32 then [115, 112, 97, 99, 101] else if n = 10 then [110, 101, 119, 108, 105, 110, 101] else if n = 9 then [116, 97, 98] else if n = 0 then [110, 117, 108]
  else if 32 < n ∧ n ≤ 126 then [(n % 256).toNat.toUInt8] else 120 :: two (n % 256).toNat

/-- The digits of a natural number. -/
def dgs : Nat → Nat → List UInt8
  | 0, _ => []
  | f + 1, n => if n < 10 then [(48 + n).toUInt8] else dgs f (n / 10) ++ [(48 + n % 10).toUInt8]
/-- A whole number's digits. -/
def ztx (X : Int) : List UInt8 := if X < 0 then 45 :: dgs (X.natAbs + 1) X.natAbs else dgs (X.natAbs + 1) X.natAbs

/-- Items, the first one behind g, the others behind a blank. -/
def its {α : Type} (f : α → List UInt8) : List UInt8 → List α → List UInt8
  | _, [] => []
  | g, d :: l => g ++ f d ++ its f [32] l

/-- What stands behind a dot. -/
def dotW {α : Type} (f : α → List UInt8) : List α → List UInt8
  | [] => []
  | d :: _ => [32, 46, 32] ++ f d

def wr : (h : Nat) → Bool → Tr h → List UInt8
  | 0, _, _ => []
  | h + 1, sh, (k, n, b, L, t, I, R) =>
    if k = 1 then ztx (sgn b (num 4294967296 (fun i => L.getD i 0) L.length))
    else if k = 2 then (if n = 1 then [35, 116] else [35, 102])
    else if k = 3 then (if sh then [(n % 256).toNat.toUInt8] else [35, 92] ++ chW n)
    else if k = 4 then (if sh then t.data.toList else [34] ++ tsW t.data.toList ++ [34])
    else if k = 5 then t.data.toList
    else if k = 6 then (match I, R with
      | [], r :: _ => wr h sh r
      | I, R => [40] ++ its (wr h sh) [] I ++ dotW (wr h sh) R ++ [41])
    else if k = 7 then [35, 40] ++ its (wr h sh) [] I ++ [41]
    else if k = 9 then [35, 60, 112, 114, 111, 99, 101, 100, 117, 114, 101, 62]
    else if k = 10 then [35, 60, 99, 111, 110, 100, 105, 116, 105, 111, 110, 32] ++ t.data.toList ++ its (wr h false) [32] I ++ [62]
    else [35, 60, 118, 111, 105, 100, 62]

/-- How much there is of a datum. -/
def bk : (h : Nat) → Tr h → Nat
  | 0, _ => 0
  | h + 1, (_, _, _, L, t, I, R) => 2 + L.length + t.size + (I.map (bk h)).sum + (R.map (bk h)).sum

end Go.Proofs.YteipogfolnlblaaDoor
