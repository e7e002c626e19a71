/-
  What is proved here: what is wrong with code that pushes and pops, and with a branch, by the plain model; no walk.
-/
import Derived.Test.YtmogglmofbbjlaaKModel
namespace Go.Proofs.Ytmogglmofbbjlaa
open Go Go.RowKit

/-- A proto of these instructions, with nc constants. -/
def mkPR (nc : Nat) (l : List (Int × Int × Int)) : PR :=
  { args := 0, free := 0, rest := false, nc := nc, nn := 0, len := l.length, op := fun j => (l.getD j (0, 0, 0)).1, a := fun j => (l.getD j (0, 0, 0)).2.1, b := fun j => (l.getD j (0, 0, 0)).2.2 }

/-- The state when just the places up to i are reached, and i is to be looked at. -/
def dS (n i : Nat) : Nat → Int := fun j => if j ≤ i then (if j ≤ n then (j : Int) else 2 * n - j) else -1
def tS (i : Nat) : Nat → Bool := fun j => j == i
def codeS (n k : Nat) : List (Int × Int × Int) := List.replicate n (1, 0, 0) ++ (List.replicate k (17, 0, 0) ++ [(13, 0, 0)])
theorem codeS_len (n k : Nat) : (codeS n k).length = n + k + 1 := by simp [codeS]; omega
theorem codeS_1 {n k j : Nat} (h : j < n) : (codeS n k).getD j (0, 0, 0) = (1, 0, 0) := by
  unfold codeS
  rw [List.getD_eq_getElem?_getD, List.getElem?_append_left (by simpa using h)]
  simp [h]
theorem codeS_2 {n k j : Nat} (h1 : n ≤ j) (h2 : j < n + k) : (codeS n k).getD j (0, 0, 0) = (17, 0, 0) := by
  unfold codeS
  rw [List.getD_eq_getElem?_getD, List.getElem?_append_right (by simpa using h1), List.getElem?_append_left (by simp; omega)]
  simp [show j - n < k by omega]
theorem codeS_3 {n k : Nat} : (codeS n k).getD (n + k) (0, 0, 0) = (13, 0, 0) := by
  unfold codeS
  rw [List.getD_eq_getElem?_getD, List.getElem?_append_right (by simp), List.getElem?_append_right (by simp)]
  simp

theorem tS_least {len i : Nat} (h : i < len) : leastT len (tS i) = some i :=
  least_of h (by simp [tS]) (fun j hj => by simp [tS]; omega)
theorem tS_off (i : Nat) : updB (tS i) i false = fun _ => false := by
  funext j
  simp only [updB, tS]
  by_cases e : j = i
  · simp [e]
  · simp [e]
/-- One place on. -/
theorem go_one {len n i : Nat} {k : Nat} {a dep : Int} (hw : ways k i a = [(i : Int) + 1]) (hi : i + 1 < len) (hd : dep = (if i + 1 ≤ n then ((i + 1 : Nat) : Int) else 2 * n - ((i + 1 : Nat) : Int))) :
    goOnM len k i a dep (dS n i) (fun _ => false) = (0, dS n (i + 1), tS (i + 1)) := by
  unfold goOnM
  rw [hw]
  rw [if_pos (by simp [isIn]; omega)]
  have e1 : ((i : Int) + 1).toNat = i + 1 := by omega
  have e2 : dS n i (i + 1) = -1 := by unfold dS; rw [if_neg (by omega)]
  have e3 : reachD (dS n i) (i + 1) dep = dS n (i + 1) := by
    unfold reachD
    rw [e2, if_pos (by omega)]
    funext j
    simp only [updI]
    by_cases e : j = i + 1
    · rw [if_pos e, e, hd]
      unfold dS
      rw [if_pos (Nat.le_refl _)]
    · rw [if_neg e]
      unfold dS
      by_cases h : j ≤ i
      · simp [h, show j ≤ i + 1 by omega]
      · simp [h, show ¬ j ≤ i + 1 by omega]
  have e4 : reachT (dS n i) (fun _ => false) (i + 1) = tS (i + 1) := by
    unfold reachT
    rw [e2, if_pos (by omega)]
    funext j
    simp only [updB, tS]
    by_cases e : j = i + 1
    · simp [e]
    · simp [e]
  have e5 : dS n (i + 1) (i + 1) = dep := by rw [hd]; unfold dS; rw [if_pos (Nat.le_refl _)]
  simp only [reachAll, e1, e3, e4, e5, if_true]

theorem look_push {n k i : Nat} {fr : Nat → Int} (h : i < n) : lookM 1 fr (mkPR 1 (codeS n k)) i (dS n i) (fun _ => false) = goOnM (n + k + 1) 1 i 0 ((i : Int) + 1) (dS n i) (fun _ => false) ∨ 4095 < i := by
  by_cases hb : 4095 < i
  · exact .inr hb
  refine .inl ?_
  have e1 : (mkPR 1 (codeS n k)).op i = 1 := by simp only [mkPR, codeS_1 h]
  have e2 : (mkPR 1 (codeS n k)).a i = 0 := by simp only [mkPR, codeS_1 h]
  have e3 : (mkPR 1 (codeS n k)).b i = 0 := by simp only [mkPR, codeS_1 h]
  have e4 : (mkPR 1 (codeS n k)).len = n + k + 1 := codeS_len n k
  have e5 : wrongM 1 fr (mkPR 1 (codeS n k)) 1 0 0 = 0 := by
    simp [wrongM, isIn, nA, nB, thr, mkPR]
  have e6 : dS n i i = (i : Int) := by unfold dS; rw [if_pos (Nat.le_refl _), if_pos (by omega)]
  unfold lookM
  rw [e1, e2, e3, e4, e5, e6]
  rw [if_neg (by simp), show (1 : Int).toNat = 1 from rfl, show popd 1 0 0 = 0 from rfl, show nPush 1 = 1 from rfl, show nA 1 = 1 from rfl, if_neg (by omega), if_neg (by simp), if_neg (by omega)]
  simp
theorem look_pop {n k i : Nat} {fr : Nat → Int} (h1 : n ≤ i) (h2 : i < n + k) (hn : n ≤ 40) (hi : i ≤ 2 * n) : lookM 1 fr (mkPR 1 (codeS n k)) i (dS n i) (fun _ => false) = if i = 2 * n then (31, dS n i, fun _ => false) else goOnM (n + k + 1) 17 i 0 (2 * (n : Int) - ((i + 1 : Nat) : Int)) (dS n i) (fun _ => false) := by
  have e1 : (mkPR 1 (codeS n k)).op i = 17 := by simp only [mkPR, codeS_2 h1 h2]
  have e2 : (mkPR 1 (codeS n k)).a i = 0 := by simp only [mkPR, codeS_2 h1 h2]
  have e3 : (mkPR 1 (codeS n k)).b i = 0 := by simp only [mkPR, codeS_2 h1 h2]
  have e4 : (mkPR 1 (codeS n k)).len = n + k + 1 := codeS_len n k
  have e5 : wrongM 1 fr (mkPR 1 (codeS n k)) 17 0 0 = 0 := by
    simp [wrongM, isIn, nA, nB, thr]
  have e6 : dS n i i = 2 * (n : Int) - i := by
    unfold dS
    rw [if_pos (Nat.le_refl _)]
    split <;> omega
  unfold lookM
  rw [e1, e2, e3, e4, e5, e6]
  rw [if_neg (by simp), show (17 : Int).toNat = 17 from rfl, show popd 17 0 0 = 1 from rfl, show nPush 17 = 0 from rfl, show nA 17 = 0 from rfl]
  by_cases e : i = 2 * n
  · rw [if_pos e, if_pos (by omega)]
  · rw [if_neg e, if_neg (by omega), if_neg (by simp), if_neg (by omega)]
    rw [show 2 * (n : Int) - i - 1 + ((0 : Nat) : Int) = 2 * (n : Int) - ((i + 1 : Nat) : Int) by omega]
theorem look_ret {n k : Nat} {fr : Nat → Int} (hn : n ≤ 40) (hk : k ≤ n) : lookM 1 fr (mkPR 1 (codeS n k)) (n + k) (dS n (n + k)) (fun _ => false) = if k = n then (31, dS n (n + k), fun _ => false) else (0, dS n (n + k), fun _ => false) := by
  have e1 : (mkPR 1 (codeS n k)).op (n + k) = 13 := by simp only [mkPR, codeS_3]
  have e2 : (mkPR 1 (codeS n k)).a (n + k) = 0 := by simp only [mkPR, codeS_3]
  have e3 : (mkPR 1 (codeS n k)).b (n + k) = 0 := by simp only [mkPR, codeS_3]
  have e4 : (mkPR 1 (codeS n k)).len = n + k + 1 := codeS_len n k
  have e5 : wrongM 1 fr (mkPR 1 (codeS n k)) 13 0 0 = 0 := by
    simp [wrongM, isIn, nA, nB, thr]
  have e6 : dS n (n + k) (n + k) = (n : Int) - k := by
    unfold dS
    rw [if_pos (Nat.le_refl _)]
    split <;> omega
  unfold lookM
  rw [e1, e2, e3, e4, e5, e6]
  rw [if_neg (by simp), show (13 : Int).toNat = 13 from rfl, show popd 13 0 0 = 1 from rfl, show nPush 13 = 0 from rfl, show nA 13 = 0 from rfl]
  by_cases e : k = n
  · rw [if_pos e, if_pos (by omega)]
  · rw [if_neg e, if_neg (by omega), if_neg (by simp), if_neg (by omega)]
    rfl

theorem run_step {p : PR} {fr : Nat → Int} {m i : Nat} {d d' : Nat → Int} {T' : Nat → Bool} (h : i < p.len) (hl : lookM 1 fr p i d (fun _ => false) = (0, d', T')) : runM 1 fr p (m + 1) d (tS i) = runM 1 fr p m d' T' := by
  rw [runM, tS_least h]
  simp only [tS_off, hl]
  rfl
theorem run_stop {p : PR} {fr : Nat → Int} {m i e : Nat} {d d' : Nat → Int} {T' : Nat → Bool} (h : i < p.len) (he : e ≠ 0) (hl : lookM 1 fr p i d (fun _ => false) = (e, d', T')) : runM 1 fr p (m + 1) d (tS i) = (e, i, d) := by
  rw [runM, tS_least h]
  simp only [tS_off, hl]
  rw [if_pos he]
theorem run_to {n k : Nat} {fr : Nat → Int} (hn : n ≤ 40) : ∀ i, i ≤ n + k → i ≤ 2 * n → runM 1 fr (mkPR 1 (codeS n k)) (n + k + 1) (dS n 0) (tS 0) = runM 1 fr (mkPR 1 (codeS n k)) (n + k + 1 - i) (dS n i) (tS i)
  | 0, _, _ => rfl
  | i + 1, h1, h2 => by
    rw [run_to hn i (by omega) (by omega)]
    have hl : (mkPR 1 (codeS n k)).len = n + k + 1 := codeS_len n k
    have e : n + k + 1 - i = (n + k + 1 - (i + 1)) + 1 := by omega
    rw [e]
    refine run_step (by omega) ?_
    by_cases hi : i < n
    · rcases look_push (k := k) (fr := fr) hi with h | h
      · rw [h]
        exact go_one rfl (by omega) (by rw [if_pos (by omega)]; omega)
      · omega
    · rw [look_pop (by omega) (by omega) hn (by omega), if_neg (by omega)]
      exact go_one rfl (by omega) (by rw [if_neg (by omega)])

theorem walk_stacks {n k : Nat} {fr : Nat → Int} (hn : n ≤ 40) (hk : k ≤ 40) : walkM 1 fr 0 (mkPR 1 (codeS n k)) = if n ≤ k then (31, 2 * n, dS n (2 * n)) else (0, 0, dS n (n + k)) := by
  have hl : (mkPR 1 (codeS n k)).len = n + k + 1 := codeS_len n k
  have hh : headM 0 (mkPR 1 (codeS n k)) = true := by
    unfold headM
    rw [hl]
    simp [mkPR, isIn]
    omega
  have e1 : updI (fun _ => (-1 : Int)) 0 (dep0 (mkPR 1 (codeS n k))) = dS n 0 := by
    funext j
    simp only [updI, dS, dep0, mkPR]
    by_cases e : j = 0
    · simp [e]
    · simp [e]
  have e2 : updB (fun _ => false) 0 true = tS 0 := by
    funext j
    simp only [updB, tS]
    by_cases e : j = 0
    · simp [e]
    · simp [e]
  unfold walkM
  rw [if_pos hh, hl, e1, e2]
  by_cases h : n ≤ k
  · rw [if_pos h, run_to hn (2 * n) (by omega) (by omega), show n + k + 1 - 2 * n = (k - n) + 1 by omega]
    by_cases e : k = n
    · subst e
      have := look_ret (fr := fr) hn (Nat.le_refl k)
      rw [if_pos rfl] at this
      rw [show 2 * k = k + k by omega]
      exact run_stop (by omega) (by omega) this
    · have := look_pop (k := k) (fr := fr) (i := 2 * n) (by omega) (by omega) hn (by omega)
      rw [if_pos rfl] at this
      exact run_stop (by omega) (by omega) this
  · rw [if_neg h, run_to hn (n + k) (by omega) (by omega), show n + k + 1 - (n + k) = 0 + 1 by omega]
    have := look_ret (fr := fr) hn (by omega : k ≤ n)
    rw [if_neg (by omega)] at this
    rw [run_step (by omega) this]
    rfl
theorem program_stacks {n k : Nat} (hn : n ≤ 40) (hk : k ≤ 40) : programM 1 (fun _ => mkPR 1 (codeS n k)) = if n ≤ k then (0, 2 * n, 31) else (0, 0, 0) := by
  unfold programM
  rw [if_neg (by omega)]
  unfold progM
  rw [walk_stacks hn hk]
  by_cases h : n ≤ k
  · simp only [if_pos h]
    rfl
  · simp only [if_neg h]
    rfl

def codeB (n k : Nat) : List (Int × Int × Int) := [(1, 0, 0), (15, (n : Int) + 3, 0)] ++ (List.replicate n (1, 0, 0) ++ ((14, (n : Int) + 3 + k, 0) :: (List.replicate k (1, 0, 0) ++ [(13, 0, 0)])))
theorem branches_ok : ((List.range 7).all fun n => (List.range 7).all fun k => n == 0 || (k == 0 || (decide (programM 1 (fun _ => mkPR 1 (codeB n k)) = if n = k then (0, 0, 0) else (0, n + 2 + k, 31))))) = true := by decide +kernel
theorem program_branches {n k : Nat} (h1 : 1 ≤ n) (h2 : n ≤ 6) (h3 : 1 ≤ k) (h4 : k ≤ 6) : programM 1 (fun _ => mkPR 1 (codeB n k)) = if n = k then (0, 0, 0) else (0, n + 2 + k, 31) := by
  have := List.all_eq_true.1 (List.all_eq_true.1 branches_ok n (List.mem_range.2 (by omega))) k (List.mem_range.2 (by omega))
  simp only [Bool.or_eq_true, beq_iff_eq, decide_eq_true_eq] at this
  rcases this with e | e | e
  · omega
  · omega
  · exact e
theorem program_a1 : programM 1 (fun _ => mkPR 0 [(13, 0, 0)]) = (0, 0, 31) := by decide +kernel
theorem program_a2 : programM 1 (fun _ => mkPR 1 [(1, 0, 0), (13, 0, 0)]) = (0, 0, 0) := by decide +kernel

end Go.Proofs.Ytmogglmofbbjlaa
