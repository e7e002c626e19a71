/-
  What is proved here: a program's bytes as a function of it, and which may be written; no walk.
-/
import Derived.Test.YtilcigjhogcjkaaJB
namespace Go.Proofs.Ytilcigjhogcjkaa
open Go Go.RowKit

/-- A number's groups of seven binary digits. -/
def grpB : Nat → Nat → List Nat
  | 0, v => [v]
  | f + 1, v => if v < 128 then [v] else (v % 128 + 128) :: grpB f (v / 128)
def numB (v : Nat) : List Nat := grpB 10 v
theorem grp_more : ∀ (f v : Nat), v < 128 ^ (f + 1) → grpB (f + 1) v = grpB f v
  | 0, v, h => by
    have h' : v < 128 := by simpa using h
    simp [grpB, h']
  | f + 1, v, h => by
    by_cases h' : v < 128
    · simp [grpB, h']
    · have hd : v / 128 < 128 ^ (f + 1) := by
        rw [Nat.div_lt_iff_lt_mul (by decide), ← Nat.pow_succ]
        exact h
      have ih := grp_more f (v / 128) hd
      show (if v < 128 then [v] else (v % 128 + 128) :: grpB (f + 1) (v / 128)) = if v < 128 then [v] else (v % 128 + 128) :: grpB f (v / 128)
      rw [if_neg h', if_neg h', ih]
theorem numB_lt {v : Nat} (h : v < 128) : numB v = [v] := by simp [numB, grpB, h]
theorem numB_ge {v : Nat} (h : 128 ≤ v) (hv : v < 128 ^ 10) : numB v = (v % 128 + 128) :: numB (v / 128) := by
  have h1 : ¬ v < 128 := by omega
  have hd : v / 128 < 128 ^ 10 := by omega
  unfold numB
  rw [grpB, if_neg h1, grp_more 9 (v / 128) hd]
def sgnN (v : Int) : Nat := if v < 0 then (-2 * v - 1).toNat else (2 * v).toNat
def byL (l : List UInt8) : List Nat := l.map UInt8.toNat
def txtB (s : ByteArray) : List Nat := numB s.size ++ byL s.data.toList
def flgB (b : Bool) : List Nat := [if b then 1 else 0]
/-- A datum's bytes. -/
def datB : (h : Nat) → Tr h → List Nat
  | 0, _ => []
  | h + 1, (k, n, b, L, t, I, R) => numB k.toNat ++
      (if k = 1 then flgB b ++ numB L.length ++ L.flatMap numB
      else if k = 2 ∨ k = 3 ∨ k = 9 then numB (sgnN n)
      else if k = 4 then txtB t
      else if k = 5 then txtB t ++ numB (sgnN n)
      else if k = 6 then numB I.length ++ I.flatMap (datB h) ++ flgB (!R.isEmpty) ++ R.flatMap (datB h)
      else if k = 7 then numB I.length ++ I.flatMap (datB h)
      else [])
def kdT : (h : Nat) → Tr h → Int
  | 0, _ => 0
  | _ + 1, d => d.1
def half (v : Int) : Bool := decide (-549755813888 ≤ v) && decide (v ≤ 549755813888)
def isNum (v : Int) : Bool := decide (0 ≤ v) && decide (v ≤ 1099511627776)
def canB (b : Bool) (L : List Nat) : Bool := if L.length = 0 then !b else !(L.getD (L.length - 1) 0 == 0)
def restF {h : Nat} (k : Int) (n : Nat) : List (Tr h) → Bool
  | [] => true
  | [r] => decide (k = 6) && (decide (0 < n) && !decide (kdT h r = 6))
  | _ => false
/-- May a datum be written, if its parts may? -/
def fit1 {h : Nat} (d : Tr (h + 1)) : Bool :=
  match d with
  | (k, n, b, L, t, I, R) => (decide (1 ≤ k) && decide (k ≤ 9)) && (half n && ((decide (k = 2) || decide (k = 3) || decide (k = 9) || decide (k = 5)) || decide (n = 0)) && (canB b L && (decide (k = 1) || decide (L.length = 0)) &&
      ((decide (k = 4) || decide (k = 5)) || decide (t.size = 0)) && ((decide (k = 6) || decide (k = 7)) || decide (I.length = 0)) && restF k I.length R))
def goodD : (h : Nat) → Nat → Tr h → Bool
  | 0, _, _ => false
  | _ + 1, 0, _ => false
  | h + 1, dp + 1, d => fit1 d && (d.2.2.2.2.2.1.all (goodD h dp) && d.2.2.2.2.2.2.all (goodD h dp))
def ptsD : (h : Nat) → Tr h → Nat
  | 0, _ => 0
  | h + 1, d => 1 + (d.2.2.2.2.2.1.map (ptsD h)).sum + (d.2.2.2.2.2.2.map (ptsD h)).sum

end Go.Proofs.Ytilcigjhogcjkaa
