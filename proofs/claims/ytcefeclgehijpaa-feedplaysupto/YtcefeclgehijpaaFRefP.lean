/-
  What is proved here: the document's table as plain mathematics; its rows in memory; no walk.
-/
import Derived.Test.YtcefeclgehijpaaFCall
import Derived.OwnWalk
import Derived.Laws.OwnMore
namespace Go.Proofs.Ytcefeclgehijpaa
open Go Go.RowKit

def ixS (p c : Int) : List PM → Nat
  | [] => 0
  | x :: S => if p = x.p ∧ c = x.c then 0 else ixS p c S + 1
/-- A place is made, if it is not there. -/
def fin (p c : Int) : List PM → List PM
  | [] => [⟨p, c, 0, -1, 0⟩]
  | x :: S => if p = x.p ∧ c = x.c then x :: S else x :: fin p c S
theorem ix_at {p c : Int} : ∀ {M : List PM} {i : Nat} {x : PM}, (∀ j, j < i → ∀ y, M[j]? = some y → ¬ (p = y.p ∧ c = y.c)) → M[i]? = some x → p = x.p ∧ c = x.c → ixS p c M = i ∧ fin p c M = M
  | [], _, _, _, h, _ => by simp at h
  | y :: M, 0, x, _, h, hk => by
    simp at h
    subst h
    simp [ixS, fin, hk]
  | y :: M, i + 1, x, hn, h, hk => by
    have h0 : ¬ (p = y.p ∧ c = y.c) := hn 0 (by omega) y rfl
    obtain ⟨h1, h2⟩ := ix_at (M := M) (i := i) (fun j hj z hz => hn (j + 1) (by omega) z (by simpa using hz)) (by simpa using h) hk
    simp only [ixS, fin]
    rw [if_neg h0, if_neg h0, h1, h2]
    exact ⟨rfl, rfl⟩
theorem ix_end {p c : Int} : ∀ {M : List PM}, (∀ j, j < M.length → ∀ y, M[j]? = some y → ¬ (p = y.p ∧ c = y.c)) → ixS p c M = M.length ∧ fin p c M = M ++ [⟨p, c, 0, -1, 0⟩]
  | [], _ => ⟨rfl, rfl⟩
  | y :: M, hn => by
    have h0 : ¬ (p = y.p ∧ c = y.c) := hn 0 (by simp) y rfl
    obtain ⟨h1, h2⟩ := ix_end (M := M) (fun j hj z hz => hn (j + 1) (by simpa using hj) z (by simpa using hz))
    simp only [ixS, fin]
    rw [if_neg h0, if_neg h0, h1, h2]
    exact ⟨rfl, rfl⟩
theorem fin_get (p c : Int) : ∀ (M : List PM), ∃ x, (fin p c M)[ixS p c M]? = some x ∧ x.p = p ∧ x.c = c
  | [] => ⟨_, rfl, rfl, rfl⟩
  | y :: M => by
    simp only [fin, ixS]
    by_cases h : p = y.p ∧ c = y.c
    · rw [if_pos h, if_pos h]
      exact ⟨y, rfl, h.1.symm, h.2.symm⟩
    · rw [if_neg h, if_neg h]
      obtain ⟨x, h1, h2⟩ := fin_get p c M
      exact ⟨x, by simpa using h1, h2⟩
theorem ins_fin (f : Fd) : ∀ (M : List PM) {x : PM}, (fin f.p f.c M)[ixS f.p f.c M]? = some x → insS f M = (fin f.p f.c M).set (ixS f.p f.c M) ⟨x.p, x.c, orI x.m f.m, jc x.k f.k, x.n⟩
  | [], x, h => by
    simp [fin, ixS] at h
    subst h
    rfl
  | y :: M, x, h => by
    simp only [fin, ixS, insS] at *
    by_cases hk : f.p = y.p ∧ f.c = y.c
    · rw [if_pos hk, if_pos hk] at h
      simp at h
      subst h
      rw [if_pos hk, if_pos hk, if_pos hk]
      rfl
    · rw [if_neg hk, if_neg hk] at h
      rw [if_neg hk, if_neg hk, if_neg hk, ins_fin f M (by simpa using h)]
      rfl
theorem ent_fin (p c : Int) : ∀ (M : List PM) {x : PM}, (fin p c M)[ixS p c M]? = some x → entS p c M = (fin p c M).set (ixS p c M) ⟨x.p, x.c, x.m, x.k, x.n + 1⟩ ∧ times p c M = x.n
  | [], x, h => by
    simp [fin, ixS] at h
    subst h
    exact ⟨rfl, rfl⟩
  | y :: M, x, h => by
    simp only [fin, ixS, entS, times] at *
    by_cases hk : p = y.p ∧ c = y.c
    · rw [if_pos hk, if_pos hk] at h
      simp at h
      subst h
      rw [if_pos hk, if_pos hk, if_pos hk, if_pos hk]
      exact ⟨rfl, rfl⟩
    · rw [if_neg hk, if_neg hk] at h
      obtain ⟨h1, h2⟩ := ent_fin p c M (x := x) (by simpa using h)
      rw [if_neg hk, if_neg hk, if_neg hk, if_neg hk, h1, h2]
      exact ⟨rfl, rfl⟩
theorem fin_len (p c : Int) : ∀ (M : List PM), (fin p c M).length ≤ M.length + 1
  | [] => by simp [fin]
  | y :: M => by
    simp only [fin]
    split
    · simp
    · have := fin_len p c M
      simp
      omega
theorem ix_lt (p c : Int) (M : List PM) : ixS p c M < (fin p c M).length := by
  obtain ⟨x, h, -⟩ := fin_get p c M
  exact (List.getElem?_eq_some_iff.1 h).1

/-- The cells of places' feeds. -/
def rowM (M : List PM) : List Value := M.flatMap fun x => [.int .i64 x.p, .int .i64 x.c, .int .i64 x.m, .int .i64 x.k]
def rowC (M : List PM) : List Value := M.map fun x => .int .i64 x.n
theorem rowM_len (M : List PM) : (rowM M).length = M.length * 4 := by
  induction M with
  | nil => rfl
  | cons x M ih => simp only [rowM, List.flatMap_cons, List.length_append, List.length_cons] at *; rw [ih]; simp; omega
theorem rowM_get : ∀ {M : List PM} {i : Nat} {x : PM}, M[i]? = some x → (rowM M)[i * 4]? = some (.int .i64 x.p) ∧ (rowM M)[i * 4 + 1]? = some (.int .i64 x.c) ∧ (rowM M)[i * 4 + 2]? = some (.int .i64 x.m) ∧ (rowM M)[i * 4 + 3]? = some (.int .i64 x.k)
  | [], _, _, h => by simp at h
  | y :: M, 0, x, h => by
    simp at h
    subst h
    exact ⟨rfl, rfl, rfl, rfl⟩
  | y :: M, i + 1, x, h => by
    have q := rowM_get (M := M) (i := i) (x := x) (by simpa using h)
    have e : rowM (y :: M) = Value.int .i64 y.p :: .int .i64 y.c :: .int .i64 y.m :: .int .i64 y.k :: rowM M := rfl
    rw [e, show (i + 1) * 4 = i * 4 + 1 + 1 + 1 + 1 by omega]
    simpa using q
theorem rowM_snoc (M : List PM) (x : PM) : rowM (M ++ [x]) = rowM M ++ [.int .i64 x.p, .int .i64 x.c, .int .i64 x.m, .int .i64 x.k] := by simp [rowM]
theorem rowC_snoc (M : List PM) (x : PM) : rowC (M ++ [x]) = rowC M ++ [.int .i64 x.n] := by simp [rowC]
theorem rowM_set : ∀ {M : List PM} {i : Nat} {x : PM}, M[i]? = some x → ∀ (y : PM), rowM (M.set i y) = ((((rowM M).set (i * 4) (.int .i64 y.p)).set (i * 4 + 1) (.int .i64 y.c)).set (i * 4 + 2) (.int .i64 y.m)).set (i * 4 + 3) (.int .i64 y.k)
  | [], _, _, h, _ => by simp at h
  | z :: M, 0, x, h, y => rfl
  | z :: M, i + 1, x, h, y => by
    have q := rowM_set (M := M) (i := i) (x := x) (by simpa using h) y
    have e : ∀ (z : PM) M, rowM (z :: M) = Value.int .i64 z.p :: .int .i64 z.c :: .int .i64 z.m :: .int .i64 z.k :: rowM M := fun _ _ => rfl
    rw [List.set_cons_succ, e, e, q, show (i + 1) * 4 = i * 4 + 1 + 1 + 1 + 1 by omega]
    rfl
theorem rowM_set2 {M : List PM} {i : Nat} {x : PM} (h : M[i]? = some x) (m : Int) : rowM (M.set i ⟨x.p, x.c, m, x.k, x.n⟩) = (rowM M).set (i * 4 + 2) (.int .i64 m) := by
  obtain ⟨q0, q1, q2, q3⟩ := rowM_get h
  have hs : ∀ {l : List Value} {j : Nat} {v : Value}, l[j]? = some v → l.set j v = l := by
    intro l j v hj
    obtain ⟨h1, h2⟩ := List.getElem?_eq_some_iff.1 hj
    rw [← h2]
    exact List.set_getElem_self h1
  rw [rowM_set h, hs q0, hs q1]
  refine hs ?_
  rw [List.getElem?_set_ne (by omega)]
  exact q3
theorem rowM_setN {M : List PM} {i : Nat} {x : PM} (h : M[i]? = some x) (n : Int) : rowM (M.set i ⟨x.p, x.c, x.m, x.k, n⟩) = rowM M := by
  obtain ⟨q0, q1, q2, q3⟩ := rowM_get h
  have hs : ∀ {l : List Value} {j : Nat} {v : Value}, l[j]? = some v → l.set j v = l := by
    intro l j v hj
    obtain ⟨h1, h2⟩ := List.getElem?_eq_some_iff.1 hj
    rw [← h2]
    exact List.set_getElem_self h1
  rw [rowM_set h, hs q0, hs q1, hs q2, hs q3]
theorem rowC_setN {M : List PM} {i : Nat} {x : PM} (h : M[i]? = some x) (p c m k : Int) : rowC (M.set i ⟨p, c, m, k, x.n⟩) = rowC M := by
  obtain ⟨h1, h2⟩ := List.getElem?_eq_some_iff.1 h
  unfold rowC
  rw [List.map_set]
  have e : (M.map fun x => Value.int .i64 x.n)[i]'(by simpa using h1) = .int .i64 x.n := by simp [h2]
  rw [← e]
  exact List.set_getElem_self _

/-- Where the document's table may turn something: its own blocks. -/
def RS (base : Nat) (w : World) (k : Nat) : Prop := base ≤ k ∧ ∃ cs ty, w.heap[k]? = some (.cells cs ty (0, 0)) ∧ (ty = 29 ∨ ty = 37 ∨ ty = 3)
theorem Fr.rs {base : Nat} {a b c : World} (h : Fr (RS base a) a b) (h2 : Fr (RS base b) b c) : Fr (RS base a) a c := by
  refine h.trans h2 (fun k hk hs => ?_)
  rcases Classical.em (RS base a k) with e | e
  · exact e
  · have hb := h.block k hk e
    obtain ⟨h3, cs, ty, h4, h5⟩ := hs
    exact ⟨h3, cs, ty, hb ▸ h4, h5⟩
theorem Fr.none_rs {base : Nat} {a b : World} (h : Fr (fun _ => False) a b) : Fr (RS base a) a b := h.mono (fun _ _ e => e.elim)

/-- The document's table in memory. -/
structure RT (w : World) (base b : Nat) (M : List PM) (u v : Value) : Prop where
  bb : base ≤ b
  tb : w.heap[b]? = some (.cells #[u, v] 29 (0, 0))
  fs : w.ownsRow base 37 4 u M.length (rowM M)
  cs : w.ownsRow base 3 1 v M.length (rowC M)
/-- What comes of a call on it. -/
def RA (w w' : World) (base b : Nat) (M : List PM) : Prop := ∃ u v, RT w' base b M u v ∧ Fr (RS base w) w w'
theorem RT.rsb {w : World} {base b : Nat} {M : List PM} {u v : Value} (h : RT w base b M u v) : RS base w b := ⟨h.bb, _, _, h.tb, .inl rfl⟩
theorem rs_row {w : World} {base n : Nat} {E : TypeId} {s : Nat} {u : Value} {xs : List Value} (h : w.ownsRow base E s u n xs) (hE : E = 37 ∨ E = 3) {k : Nat} (hk : u.ownBlock = some k) : RS base w k := by
  obtain ⟨-, ⟨rfl, -⟩ | ⟨g, cap, cur, rfl, hg, hb, -⟩⟩ := h
  · cases hk
  · have e : g = k := by simpa [Value.ownBlock] using hk
    subst e
    exact ⟨hg, cur, E, hb, .inr hE⟩
theorem RT.rsu {w : World} {base b : Nat} {M : List PM} {u v : Value} (h : RT w base b M u v) {k : Nat} (hk : u.ownBlock = some k) : RS base w k := rs_row h.fs (.inl rfl) hk
theorem RT.rsv {w : World} {base b : Nat} {M : List PM} {u v : Value} (h : RT w base b M u v) {k : Nat} (hk : v.ownBlock = some k) : RS base w k := rs_row h.cs (.inr rfl) hk
theorem ownsRow_keep {w w' : World} {base n : Nat} {E : TypeId} {s : Nat} {v : Value} {xs : List Value} (h : w.ownsRow base E s v n xs) (hb : ∀ k, v.ownBlock = some k → w'.heap[k]? = w.heap[k]?) : w'.ownsRow base E s v n xs := by
  obtain ⟨h1, h2 | ⟨g, cap, cur, e, hg, hc, h3, h4, h5, h6⟩⟩ := h
  · exact ⟨h1, .inl h2⟩
  · exact ⟨h1, .inr ⟨g, cap, cur, e, hg, (hb g (by rw [e]; rfl)).trans hc, h3, h4, h5, h6⟩⟩
theorem RT.keep {w w' : World} {base b : Nat} {M : List PM} {u v : Value} (h : RT w base b M u v) (hb : ∀ k, k < w.heap.size → RS base w k → w'.heap[k]? = w.heap[k]?) : RT w' base b M u v :=
  ⟨h.bb, (hb b (lt_of_block h.tb) h.rsb).trans h.tb, ownsRow_keep h.fs (fun k hk => hb k (h.fs.lt k hk).2 (h.rsu hk)), ownsRow_keep h.cs (fun k hk => hb k (h.cs.lt k hk).2 (h.rsv hk))⟩
theorem RT.fr {w w' : World} {base b : Nat} {M : List PM} {u v : Value} {S : Nat → Prop} (h : RT w base b M u v) (F : Fr S w w') (hs : ∀ k, RS base w k → ¬ S k) : RT w' base b M u v := h.keep fun k hk hr => F.block k hk (hs k hr)
theorem RT.same {w w' : World} {base b : Nat} {M : List PM} {u v : Value} (h : RT w base b M u v) (F : Fr (fun _ => False) w w') : RT w' base b M u v := h.fr F fun _ _ e => e
theorem foot_rs {w : World} {t r clock base k : Nat} {T : List PL} (h : TabAt w t r T clock) (hk : tfoot t r T k) : ¬ RS base w k := by
  rintro ⟨-, cs, ty, hb, hty⟩
  rcases hk with rfl | rfl | ⟨x, hx, rfl⟩
  · rw [h.tb] at hb
    simp at hb
    obtain ⟨-, rfl⟩ := hb
    revert hty
    decide
  · have := h.mp
    unfold MapAt at this
    rw [this] at hb
    cases hb
  · rw [h.pl x hx] at hb
    simp at hb
    obtain ⟨-, rfl⟩ := hb
    revert hty
    decide
theorem RT.c0 {w : World} {base b : Nat} {M : List PM} {u v : Value} (h : RT w base b M u v) : w.cell? ⟨b, 0, none⟩ = some u := by rw [cell_of_row w b 0 _ _ _ h.tb]; rfl
theorem RT.c1 {w : World} {base b : Nat} {M : List PM} {u v : Value} (h : RT w base b M u v) : w.cell? ⟨b, 1, none⟩ = some v := by rw [cell_of_row w b 1 _ _ _ h.tb]; rfl
theorem RT.fz {w : World} {base b : Nat} {M : List PM} {u v : Value} (h : RT w base b M u v) (i : Nat) : w.frozen? ⟨b, i, none⟩ = false := frozen_of_row _ _ _ _ _ h.tb
/-- A row that has something lies somewhere. -/
theorem RT.at {w : World} {base b : Nat} {M : List PM} {u v : Value} (h : RT w base b M u v) {i : Nat} {x : PM} (hx : M[i]? = some x) : ∃ g cap g' cap', u = .slice (some ⟨g, 0, none⟩) M.length cap ∧ v = .slice (some ⟨g', 0, none⟩) M.length cap' ∧
    w.cell? ⟨g, i * 4, none⟩ = some (.int .i64 x.p) ∧ w.cell? ⟨g, i * 4 + 1, none⟩ = some (.int .i64 x.c) ∧ w.cell? ⟨g, i * 4 + 2, none⟩ = some (.int .i64 x.m) ∧ w.cell? ⟨g, i * 4 + 3, none⟩ = some (.int .i64 x.k) ∧ w.cell? ⟨g', i, none⟩ = some (.int .i64 x.n) ∧ M.length ≤ maxLen := by
  have hi := (List.getElem?_eq_some_iff.1 hx).1
  have h1 := h.fs
  have h2 := h.cs
  obtain ⟨-, ⟨e, h0⟩ | ⟨g, cap, cur, rfl, hg, hb, hl, hl2, -⟩⟩ := h1
  · omega
  · obtain ⟨-, ⟨e, h0⟩ | ⟨g', cap', cur', rfl, hg', hb', -⟩⟩ := h2
    · omega
    · obtain ⟨q0, q1, q2, q3⟩ := rowM_get hx
      refine ⟨g, cap, g', cap', rfl, rfl, ?_, ?_, ?_, ?_, ?_, by omega⟩
      · rw [h.fs.cellAt _ (by omega)]; exact q0
      · rw [h.fs.cellAt _ (by omega)]; exact q1
      · rw [h.fs.cellAt _ (by omega)]; exact q2
      · rw [h.fs.cellAt _ (by omega)]; exact q3
      · rw [h.cs.cellAt _ (by omega)]
        simp [rowC, hx]

end Go.Proofs.Ytcefeclgehijpaa
