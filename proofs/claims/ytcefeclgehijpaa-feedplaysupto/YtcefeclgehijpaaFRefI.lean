/-
  What is proved here: putting feeds in, one after the other, as plain mathematics; rows of feeds of one's own; no walk.
-/
import Derived.Test.YtcefeclgehijpaaFRefG
import Derived.Test.YtcefeclgehijpaaFSame
namespace Go.Proofs.Ytcefeclgehijpaa
open Go Go.RowKit

def PM.fd (x : PM) : Fd := ⟨x.p, x.c, x.m, x.k⟩
def PM.saw (x : PM) : Bool := !decide (x.m = 0 ∧ x.k = -1)
def fdsM (M : List PM) : List Fd := (M.filter PM.saw).map PM.fd
theorem fdsM_yes {M : List PM} {i : Nat} {x : PM} (hx : M[i]? = some x) (h : x.saw = true) : fdsM (M.take (i + 1)) = fdsM (M.take i) ++ [x.fd] := by
  rw [List.take_add_one, hx]
  simp [fdsM, h]
theorem fdsM_no {M : List PM} {i : Nat} {x : PM} (hx : M[i]? = some x) (h : x.saw = false) : fdsM (M.take (i + 1)) = fdsM (M.take i) := by
  rw [List.take_add_one, hx]
  simp [fdsM, h]
/-- Sorted, up to the feed that is being put in, which stands at k. -/
def Ins (L : List Fd) (f : Fd) (k : Nat) : Prop := ∃ A B, L = A ++ f :: B ∧ A.length = k ∧ (A ++ B).Pairwise (fun x y => ¬ ltF y x) ∧ ∀ y ∈ B, ltF f y
theorem Ins.start {L : List Fd} {f : Fd} (h : L.Pairwise (fun x y => ¬ ltF y x)) : Ins (L ++ [f]) f L.length := ⟨L, [], rfl, rfl, by simpa using h, fun y hy => by cases hy⟩
theorem Ins.at {L : List Fd} {f : Fd} {k : Nat} (h : Ins L f k) : L[k]? = some f := by
  obtain ⟨A, B, rfl, rfl, -, -⟩ := h
  simp
theorem Ins.step {L : List Fd} {f a : Fd} {k : Nat} (h : Ins L f (k + 1)) (ha : L[k]? = some a) (hl : ltF f a) : Ins ((L.set (k + 1) a).set k f) f k ∧ ((L.set (k + 1) a).set k f).Perm L := by
  obtain ⟨A, B, rfl, hk, hs, hB⟩ := h
  obtain ⟨A', a', rfl⟩ : ∃ A' a', A = A' ++ [a'] := by
    rcases List.eq_nil_or_concat A with e | ⟨A', a', e⟩
    · subst e
      cases hk
    · exact ⟨A', a', by rw [e, List.concat_eq_append]⟩
  have hk' : A'.length = k := by simpa using hk
  subst hk'
  have e : a' = a := by simpa using ha
  subst e
  have e2 : ((A' ++ [a'] ++ f :: B).set (A'.length + 1) a').set A'.length f = A' ++ f :: a' :: B := by
    simp 
  rw [e2]
  refine ⟨⟨A', a' :: B, rfl, rfl, by simpa using hs, ?_⟩, ?_⟩
  · intro y hy
    rcases List.mem_cons.1 hy with rfl | hy
    · exact hl
    · exact hB y hy
  · simp only [List.append_assoc, List.singleton_append]
    exact (List.Perm.swap a' f B).append_left A'
theorem Ins.stop {L : List Fd} {f : Fd} {k : Nat} (h : Ins L f k) (hs : ∀ a, 0 < k → L[k - 1]? = some a → ¬ ltF f a) : L.Pairwise (fun x y => ¬ ltF y x) := by
  obtain ⟨A, B, rfl, rfl, hp, hB⟩ := h
  rw [List.pairwise_append] at hp ⊢
  obtain ⟨h1, h2, h3⟩ := hp
  refine ⟨h1, ?_, ?_⟩
  · rw [List.pairwise_cons]
    refine ⟨fun y hy => ?_, h2⟩
    have := hB y hy
    unfold ltF at *
    omega
  · intro x hx y hy
    rcases List.mem_cons.1 hy with rfl | hy
    · rcases List.eq_nil_or_concat A with e | ⟨A', a, e⟩
      · subst e
        cases hx
      · subst e
        have hfa := hs a (by simp) (by simp)
        rw [List.concat_eq_append, List.pairwise_append] at h1
        rw [List.concat_eq_append] at hx
        rcases List.mem_append.1 hx with hx | hx
        · have := h1.2.2 x hx a (by simp)
          unfold ltF at *
          omega
        · rw [List.mem_singleton] at hx
          subst hx
          exact hfa
    · exact h3 x hx y hy
theorem rowV_set : ∀ {L : List Fd} {i : Nat} (_ : i < L.length) (f : Fd), rowV (L.set i f) = ((((rowV L).set (i * 4) (.int .i64 f.p)).set (i * 4 + 1) (.int .i64 f.c)).set (i * 4 + 2) (.int .i64 f.m)).set (i * 4 + 3) (.int .i64 f.k)
  | [], _, h, _ => by simp at h
  | z :: L, 0, _, f => rfl
  | z :: L, i + 1, h, f => by
    have q := rowV_set (L := L) (i := i) (by simpa using h) f
    have e : ∀ (z : Fd) L, rowV (z :: L) = Value.int .i64 z.p :: .int .i64 z.c :: .int .i64 z.m :: .int .i64 z.k :: rowV L := fun _ _ => rfl
    rw [List.set_cons_succ, e, e, q, show (i + 1) * 4 = i * 4 + 1 + 1 + 1 + 1 by omega]
    rfl
theorem rowV_at : ∀ {L : List Fd} {i : Nat} {x : Fd}, L[i]? = some x → (rowV L)[i * 4]? = some (.int .i64 x.p) ∧ (rowV L)[i * 4 + 1]? = some (.int .i64 x.c) ∧ (rowV L)[i * 4 + 2]? = some (.int .i64 x.m) ∧ (rowV L)[i * 4 + 3]? = some (.int .i64 x.k)
  | [], _, _, h => by simp at h
  | y :: L, 0, x, h => by
    simp at h
    subst h
    exact ⟨rfl, rfl, rfl, rfl⟩
  | y :: L, i + 1, x, h => by
    have q := rowV_at (L := L) (i := i) (x := x) (by simpa using h)
    have e : rowV (y :: L) = Value.int .i64 y.p :: .int .i64 y.c :: .int .i64 y.m :: .int .i64 y.k :: rowV L := rfl
    rw [e, show (i + 1) * 4 = i * 4 + 1 + 1 + 1 + 1 by omega]
    simpa using q
/-- A row of feeds of one's own. -/
def FO (w : World) (base g cap : Nat) (L : List Fd) : Prop := w.ownsRow base 37 4 (.slice (some ⟨g, 0, none⟩) L.length cap) L.length (rowV L)
theorem FO.at {w : World} {base g cap i : Nat} {L : List Fd} {x : Fd} (h : FO w base g cap L) (hx : L[i]? = some x) : w.cell? ⟨g, i * 4, none⟩ = some (.int .i64 x.p) ∧ w.cell? ⟨g, i * 4 + 1, none⟩ = some (.int .i64 x.c) ∧ w.cell? ⟨g, i * 4 + 2, none⟩ = some (.int .i64 x.m) ∧ w.cell? ⟨g, i * 4 + 3, none⟩ = some (.int .i64 x.k) := by
  have hi := (List.getElem?_eq_some_iff.1 hx).1
  obtain ⟨q0, q1, q2, q3⟩ := rowV_at hx
  unfold FO at h
  refine ⟨?_, ?_, ?_, ?_⟩
  · rw [h.cellAt _ (by omega)]; exact q0
  · rw [h.cellAt _ (by omega)]; exact q1
  · rw [h.cellAt _ (by omega)]; exact q2
  · rw [h.cellAt _ (by omega)]; exact q3
theorem FO.fz {w : World} {base g cap : Nat} {L : List Fd} (h : FO w base g cap L) (i : Nat) : w.frozen? ⟨g, i, none⟩ = false := World.ownsRow.frozenAt h i
theorem FO.lt {w : World} {base g cap : Nat} {L : List Fd} (h : FO w base g cap L) : base ≤ g ∧ g < w.heap.size := World.ownsRow.lt h g rfl
theorem FO.set4 {w : World} {base g cap i : Nat} {L : List Fd} (h : FO w base g cap L) (hi : i < L.length) (f : Fd) :
    FO ((((w.setCell ⟨g, i * 4, none⟩ (.int .i64 f.p)).setCell ⟨g, i * 4 + 1, none⟩ (.int .i64 f.c)).setCell ⟨g, i * 4 + 2, none⟩ (.int .i64 f.m)).setCell ⟨g, i * 4 + 3, none⟩ (.int .i64 f.k)) base g cap (L.set i f) := by
  have s1 := (World.ownsRow.stored h (i * 4) (.int .i64 f.p)).1
  have s2 := (s1.stored (i * 4 + 1) (.int .i64 f.c)).1
  have s3 := (s2.stored (i * 4 + 2) (.int .i64 f.m)).1
  have s4 := (s3.stored (i * 4 + 3) (.int .i64 f.k)).1
  unfold FO
  rw [rowV_set hi, List.length_set]
  exact s4
theorem fo_fr4 (w : World) (g i : Nat) (v0 v1 v2 v3 : Value) : Fr (fun j => j = g) w ((((w.setCell ⟨g, i * 4, none⟩ v0).setCell ⟨g, i * 4 + 1, none⟩ v1).setCell ⟨g, i * 4 + 2, none⟩ v2).setCell ⟨g, i * 4 + 3, none⟩ v3) := by
  have h0 : Fr (fun j => j = g) w w := Fr.refl _ _
  exact (((h0.setCell (fun _ => rfl) _ _).setCell (fun _ => rfl) _ _).setCell (fun _ => rfl) _ _).setCell (fun _ => rfl) _ _

/-- The document's places as the program's, for what is told of them. -/
def toPL (M : List PM) : List PL := M.map fun x => ⟨⟨x.p, x.c, 0, 0⟩, x.m, x.k, x.n⟩
theorem toPL_pm (M : List PM) : (toPL M).map PL.pm = M := by
  unfold toPL
  rw [List.map_map]
  conv => rhs; rw [← List.map_id M]
  rfl
theorem toPL_fds (M : List PM) : fds (toPL M) = fdsM M := by
  induction M with
  | nil => rfl
  | cons x M ih =>
    have e1 : fds (toPL (x :: M)) = (if x.saw then [x.fd] else []) ++ fds (toPL M) := by
      unfold fds toPL
      rw [List.map_cons, List.filter_cons]
      have : PL.saw ⟨⟨x.p, x.c, 0, 0⟩, x.m, x.k, x.n⟩ = x.saw := rfl
      rw [this]
      cases x.saw <;> rfl
    have e2 : fdsM (x :: M) = (if x.saw then [x.fd] else []) ++ fdsM M := by
      unfold fdsM
      rw [List.filter_cons]
      cases x.saw <;> rfl
    rw [e1, e2, ih]
theorem toPL_keys (M : List PM) : (toPL M).map (fun x => (x.e.p, x.e.c)) = M.map fun x => (x.p, x.c) := by
  unfold toPL
  rw [List.map_map]
  rfl

end Go.Proofs.Ytcefeclgehijpaa
