/-
  What is proved here: what is wrong with code, as a function of the code alone; plain facts on it; no walk.
-/
import Derived.Test.YtmogglmofbbjlaaKHeap
namespace Go.Proofs.Ytmogglmofbbjlaa
open Go Go.RowKit

/-- What is looked at of a proto: how many arguments and values, how many constants, names and instructions, and these. -/
structure PR where
  args : Int
  free : Int
  rest : Bool
  nc : Nat
  nn : Nat
  len : Nat
  op : Nat → Int
  a : Nat → Int
  b : Nat → Int

/-- What the operands of each instruction are, what it pops and pushes, whether the next one follows. -/
def nA (k : Nat) : Nat := [0, 1, 2, 3, 4, 4, 4, 0, 0, 0, 5, 8, 8, 0, 7, 7, 6, 0, 9, 2, 0, 2].getD k 0
def nB (k : Nat) : Nat := [0, 0, 0, 0, 0, 0, 0, 0, 0, 0, 8, 0, 0, 0, 0, 0, 10, 0, 0, 0, 0, 0].getD k 0
def nPop (k : Nat) : Nat := [0, 0, 0, 0, 0, 1, 1, 1, 1, 2, 0, 1, 1, 1, 0, 1, 0, 1, 1, 1, 0, 0].getD k 0
def nPush (k : Nat) : Nat := [0, 1, 1, 1, 1, 1, 1, 1, 1, 1, 1, 1, 0, 0, 0, 0, 1, 0, 1, 0, 0, 1].getD k 0
def nEnd (k : Nat) : Bool := [false, false, false, false, false, false, false, false, false, false, false, false, true, true, true, false, false, false, false, false, false, false].getD k false

/-- How many arguments primitives take. -/
def pLeast (k : Nat) : Int := [0, 1, 0, 1, 1, 1, 1, 1, 2, 2, 2, 1, 1, 1, 0, 2, 1, 1, 1, 1, 1, 1, 1, 1, 2, 2, 2, 1, 1, 1, 1, 1, 1, 1, 1, 1, 1, 2, 1, 1, 2, 2, 0, 1, 0, 1, 2, 2, 2, 2, 2, 2, 2, 2, 0, 1, 1, 2, 3, 1, 1, 2, 1, 2, 0, 3, 2, 2, 1, 1, 1, 1, 1, 1, 2, 2, 1, 1, 0, 1, 1, 1, 1, 1, 0, 2, 1, 3, 2, 1, 1, 1].getD k 0
def pMost (k : Nat) : Int := [-1, -1, -1, -1, -1, -1, -1, -1, 2, 2, 2, 1, -1, -1, -1, 2, 1, 1, 1, 1, 1, 1, 1, 1, 2, 2, 2, 1, 1, 1, 1, 1, 1, 1, 1, 1, 1, 2, 1, 1, 2, 2, -1, 1, -1, 1, 2, 2, 2, 2, 2, 2, 2, 2, -1, 2, 1, 2, 3, 1, 1, 2, 1, 2, -1, 3, 2, 2, 1, 1, 1, 1, 1, 1, 2, 2, 1, 1, 0, 1, 1, 1, 1, 1, -1, -1, 1, 3, 2, 1, 1, -1].getD k 0

def isIn (n lo hi : Int) : Bool := decide (lo ≤ n) && decide (n ≤ hi)
def takesM (a b : Int) : Bool := decide (a < 85) && (decide (pLeast a.toNat ≤ b) && (decide (b ≤ pMost a.toNat) || decide (pMost a.toNat = -1)))
/-- Is there what an operand numbers? -/
def thr (np : Nat) (p : PR) (o : Nat) (x : Int) : Bool :=
  if o = 1 then isIn x 0 ((p.nc : Int) - 1) else if o = 3 then isIn x 0 (p.free - 1) else if o = 4 then isIn x 0 ((p.nn : Int) - 1) else if o = 5 then isIn x 0 ((np : Int) - 1)
  else if o = 6 then isIn x 0 91 else if o = 8 then isIn x 0 64 else if o = 9 then isIn x 0 4096 else true
/-- What is wrong with an instruction, whatever the frame is. -/
def wrongM (np : Nat) (fr : Nat → Int) (p : PR) (o a b : Int) : Nat :=
  if isIn o 1 21 = false then 30
  else if (nA o.toNat = 0 ∧ a ≠ 0) ∨ (nB o.toNat = 0 ∧ b ≠ 0) then 30
  else if thr np p (nA o.toNat) a = false ∨ thr np p (nB o.toNat) b = false then 33
  else if nA o.toNat = 5 ∧ fr a.toNat ≠ b then 34
  else if nA o.toNat = 6 ∧ takesM a b = false then 34
  else 0
def cnt (o : Nat) (x : Int) : Int := if o = 8 ∨ o = 9 ∨ o = 10 then x else 0
def popd (k : Nat) (a b : Int) : Int := nPop k + cnt (nA k) a + cnt (nB k) b
/-- The places that an instruction goes on to. -/
def ways (k pc : Nat) (a : Int) : List Int := (if nEnd k then [] else [(pc : Int) + 1]) ++ (if nA k = 7 then [a] else [])
def updI (d : Nat → Int) (i : Nat) (x : Int) : Nat → Int := fun j => if j = i then x else d j
theorem updI_same (d : Nat → Int) (i : Nat) (x : Int) : updI d i x i = x := by simp [updI]
theorem updI_other {d : Nat → Int} {i j : Nat} {x : Int} (h : j ≠ i) : updI d i x j = d j := by simp [updI, h]
def updB (d : Nat → Bool) (i : Nat) (x : Bool) : Nat → Bool := fun j => if j = i then x else d j
theorem updB_same (d : Nat → Bool) (i : Nat) (x : Bool) : updB d i x i = x := by simp [updB]
theorem updB_other {d : Nat → Bool} {i j : Nat} {x : Bool} (h : j ≠ i) : updB d i x j = d j := by simp [updB, h]
/-- The depths, and the places that are to be looked at, behind coming to a place. -/
def reachD (d : Nat → Int) (t : Nat) (dep : Int) : Nat → Int := if d t < 0 then updI d t dep else d
def reachT (d : Nat → Int) (T : Nat → Bool) (t : Nat) : Nat → Bool := if d t < 0 then updB T t true else T
def reachAll (dep : Int) : List Int → (Nat → Int) → (Nat → Bool) → Nat × (Nat → Int) × (Nat → Bool)
  | [], d, T => (0, d, T)
  | t :: l, d, T => if reachD d t.toNat dep t.toNat = dep then reachAll dep l (reachD d t.toNat dep) (reachT d T t.toNat) else (31, reachD d t.toNat dep, reachT d T t.toNat)
def goOnM (len : Nat) (k pc : Nat) (a dep : Int) (d : Nat → Int) (T : Nat → Bool) : Nat × (Nat → Int) × (Nat → Bool) :=
  if (ways k pc a).all (fun t => isIn t 0 ((len : Int) - 1)) then reachAll dep (ways k pc a) d T else (32, d, T)
/-- What is wrong with an instruction that is reached; else the depths and places behind it. -/
def lookM (np : Nat) (fr : Nat → Int) (p : PR) (pc : Nat) (d : Nat → Int) (T : Nat → Bool) : Nat × (Nat → Int) × (Nat → Bool) :=
  if wrongM np fr p (p.op pc) (p.a pc) (p.b pc) ≠ 0 then (wrongM np fr p (p.op pc) (p.a pc) (p.b pc), d, T)
  else if d pc - popd (p.op pc).toNat (p.a pc) (p.b pc) < 0 then (31, d, T)
  else if nA (p.op pc).toNat = 2 ∧ isIn (p.a pc) 0 (d pc - popd (p.op pc).toNat (p.a pc) (p.b pc) - 1) = false then (33, d, T)
  else if d pc - popd (p.op pc).toNat (p.a pc) (p.b pc) + nPush (p.op pc).toNat > 4096 then (31, d, T)
  else goOnM p.len (p.op pc).toNat pc (p.a pc) (d pc - popd (p.op pc).toNat (p.a pc) (p.b pc) + nPush (p.op pc).toNat) d T
/-- The least place that is to be looked at. -/
def leastT (len : Nat) (T : Nat → Bool) : Option Nat := (List.range len).find? T
def runM (np : Nat) (fr : Nat → Int) (p : PR) : Nat → (Nat → Int) → (Nat → Bool) → Nat × Nat × (Nat → Int)
  | 0, d, _ => (0, 0, d)
  | k + 1, d, T => match leastT p.len T with
    | none => (0, 0, d)
    | some pc => if (lookM np fr p pc d (updB T pc false)).1 ≠ 0 then ((lookM np fr p pc d (updB T pc false)).1, pc, d) else runM np fr p k (lookM np fr p pc d (updB T pc false)).2.1 (lookM np fr p pc d (updB T pc false)).2.2
def headM (n : Nat) (p : PR) : Bool :=
  (!(n == 0 && (!(p.args == 0) || (!(p.free == 0) || p.rest)))) && (isIn p.args 0 64 && (isIn p.free 0 4096 && isIn p.len 1 65536))
def dep0 (p : PR) : Int := if p.rest then p.args + 1 else p.args
def walkM (np : Nat) (fr : Nat → Int) (n : Nat) (p : PR) : Nat × Nat × (Nat → Int) :=
  if headM n p then runM np fr p p.len (updI (fun _ => -1) 0 (dep0 p)) (updB (fun _ => false) 0 true) else (33, 0, fun _ => 0)
def progM (np : Nat) (P : Nat → PR) : Nat → Nat → Nat × Nat × Nat
  | 0, _ => (0, 0, 0)
  | k + 1, n => if (walkM np (fun i => (P i).free) n (P n)).1 ≠ 0 then (n, (walkM np (fun i => (P i).free) n (P n)).2.1, (walkM np (fun i => (P i).free) n (P n)).1) else progM np P k (n + 1)
def programM (np : Nat) (P : Nat → PR) : Nat × Nat × Nat := if np = 0 then (0, 0, 30) else progM np P np 0

theorem least_none {len : Nat} {T : Nat → Bool} (h : leastT len T = none) : ∀ i, i < len → T i = false := by
  intro i hi
  have := List.find?_eq_none.1 h i (List.mem_range.2 hi)
  simpa using this
theorem least_some {len pc : Nat} {T : Nat → Bool} (h : leastT len T = some pc) : pc < len ∧ T pc = true ∧ ∀ i, i < pc → T i = false := by
  have h1 := List.find?_some h
  have h2 := List.mem_range.1 (List.mem_of_find?_eq_some h)
  refine ⟨h2, h1, fun i hi => ?_⟩
  rcases List.find?_eq_some_iff_append.1 h with ⟨-, l1, l2, e, hn⟩
  have hl : l1 = List.range pc := by
    have hp : pc = l1.length := by
      have := congrArg (fun l => l[l1.length]?) e
      simp at this
      have h3 : l1.length < len := by
        have := congrArg List.length e
        simp at this
        omega
      exact (by simpa [h3] using this : l1.length = pc).symm
    have := congrArg (List.take l1.length) e
    rw [List.take_left'  rfl, List.take_range] at this
    rw [← this, hp]
    congr 1
    omega
  have := hn i (by rw [hl]; exact List.mem_range.2 hi)
  simpa using this
theorem least_of {len pc : Nat} {T : Nat → Bool} (h1 : pc < len) (h2 : T pc = true) (h3 : ∀ i, i < pc → T i = false) : leastT len T = some pc := by
  cases e : leastT len T with
  | none => have := least_none e pc h1; rw [h2] at this; cases this
  | some q =>
    obtain ⟨a, b, c⟩ := least_some e
    have : q = pc := by
      rcases Nat.lt_trichotomy q pc with h | h | h
      · have := h3 q h; rw [b] at this; cases this
      · exact h
      · have := c pc h; rw [h2] at this; cases this
    rw [this]
theorem least_no {len : Nat} {T : Nat → Bool} (h : ∀ i, i < len → T i = false) : leastT len T = none := by
  cases e : leastT len T with
  | none => rfl
  | some q => obtain ⟨a, b, -⟩ := least_some e; have := h q a; rw [b] at this; cases this

/-- What is to be looked at has a depth. -/
def Sane (d : Nat → Int) (T : Nat → Bool) : Prop := ∀ i, T i = true → 0 ≤ d i

end Go.Proofs.Ytmogglmofbbjlaa
