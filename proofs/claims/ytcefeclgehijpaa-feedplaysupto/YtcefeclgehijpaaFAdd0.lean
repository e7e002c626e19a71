/-
  What is proved here: places and their feeds, joined; no walk.
-/
import Derived.Test.YtcefeclgehijpaaFTab
import Derived.Deep.CutRange
namespace Go.Proofs.Ytcefeclgehijpaa
open Go Go.RowKit

/-- A feed. -/
structure Fd where
  p : Int
  c : Int
  m : Int
  k : Int
/-- A place, as the model keeps it: its feed, and how often it was entered. -/
structure PM where
  p : Int
  c : Int
  m : Int
  k : Int
  n : Int
def PL.pm (x : PL) : PM := ⟨x.e.p, x.e.c, x.m, x.k, x.n⟩
/-- A feed is joined to its place's. -/
def insS (f : Fd) : List PM → List PM
  | [] => [⟨f.p, f.c, orI 0 f.m, jc (-1) f.k, 0⟩]
  | x :: S => if f.p = x.p ∧ f.c = x.c then { x with m := orI x.m f.m, k := jc x.k f.k } :: S else x :: insS f S
def addS (S : List PM) (f : Fd) : List PM := if f.m = 0 ∧ f.k = -1 then S else insS f S

/-- A row of feeds in memory. -/
def FRow (w : World) (ao : Option Addr) (n : Nat) (g : Nat → Fd) : Prop :=
  n = 0 ∨ ∃ b off, ao = some ⟨b, off, none⟩ ∧ ∀ i, i < n → w.cell? ⟨b, off + i * 4, none⟩ = some (.int .i64 (g i).p) ∧ w.cell? ⟨b, off + i * 4 + 1, none⟩ = some (.int .i64 (g i).c) ∧ w.cell? ⟨b, off + i * 4 + 2, none⟩ = some (.int .i64 (g i).m) ∧ w.cell? ⟨b, off + i * 4 + 3, none⟩ = some (.int .i64 (g i).k)

/-- What comes of a call on a table: its places are now S'. -/
def Adv (w w' : World) (t r : Nat) (T : List PL) (S' : List PM) : Prop :=
  ∃ T' clock', TabAt w' t r T' clock' ∧ Fr (tfoot t r T) w w' ∧ (∀ k, tfoot t r T' k → tfoot t r T k ∨ w.heap.size ≤ k) ∧ T'.map PL.pm = S'

theorem Adv.refl {w : World} {t r clock : Nat} {T : List PL} (h : TabAt w t r T clock) : Adv w w t r T (T.map PL.pm) := ⟨T, clock, h, Fr.refl _ _, fun _ e => .inl e, rfl⟩
theorem Adv.same {w w' : World} {t r clock : Nat} {T : List PL} (h : TabAt w t r T clock) (F : Fr (fun _ => False) w w') : Adv w w' t r T (T.map PL.pm) := ⟨T, clock, h.same F, F.mono (fun _ _ e => e.elim), fun _ e => .inl e, rfl⟩
theorem Adv.trans {w w1 w2 : World} {t r clock1 : Nat} {T T1 : List PL} {S2 : List PM} (_h1 : TabAt w1 t r T1 clock1) (F1 : Fr (tfoot t r T) w w1) (g1 : ∀ k, tfoot t r T1 k → tfoot t r T k ∨ w.heap.size ≤ k) (h2 : Adv w1 w2 t r T1 S2) : Adv w w2 t r T S2 := by
  obtain ⟨T2, c2, a, F2, g2, e⟩ := h2
  refine ⟨T2, c2, a, F1.trans F2 (fun x hx hs => ?_), fun k hk => ?_, e⟩
  · rcases g1 x hs with q | q
    · exact q
    · omega
  · rcases g2 k hk with q | q
    · exact g1 k q
    · exact .inr (by have := F1.size; omega)

/-- A place's block. -/
def PB (w : World) (a : Nat) (c0 c1 c2 c3 c4 : Value) : Prop := w.heap[a]? = some (.cells #[c0, c1, c2, c3, c4] 56 (0, 0))
theorem PB.k0 {w : World} {a : Nat} {c0 c1 c2 c3 c4 : Value} (h : PB w a c0 c1 c2 c3 c4) : w.cell? ⟨a, 0, none⟩ = some c0 := by rw [cell_of_row w a 0 _ _ _ h]; rfl
theorem PB.k1 {w : World} {a : Nat} {c0 c1 c2 c3 c4 : Value} (h : PB w a c0 c1 c2 c3 c4) : w.cell? ⟨a, 1, none⟩ = some c1 := by rw [cell_of_row w a 1 _ _ _ h]; rfl
theorem PB.k2 {w : World} {a : Nat} {c0 c1 c2 c3 c4 : Value} (h : PB w a c0 c1 c2 c3 c4) : w.cell? ⟨a, 2, none⟩ = some c2 := by rw [cell_of_row w a 2 _ _ _ h]; rfl
theorem PB.k3 {w : World} {a : Nat} {c0 c1 c2 c3 c4 : Value} (h : PB w a c0 c1 c2 c3 c4) : w.cell? ⟨a, 3, none⟩ = some c3 := by rw [cell_of_row w a 3 _ _ _ h]; rfl
theorem PB.k4 {w : World} {a : Nat} {c0 c1 c2 c3 c4 : Value} (h : PB w a c0 c1 c2 c3 c4) : w.cell? ⟨a, 4, none⟩ = some c4 := by rw [cell_of_row w a 4 _ _ _ h]; rfl
theorem PB.s0 {w : World} {a : Nat} {c0 c1 c2 c3 c4 : Value} (h : PB w a c0 c1 c2 c3 c4) (x : Value) : PB (w.setCell ⟨a, 0, none⟩ x) a x c1 c2 c3 c4 := (heap_setCell_same w a 0 _ _ x h).trans rfl
theorem PB.s1 {w : World} {a : Nat} {c0 c1 c2 c3 c4 : Value} (h : PB w a c0 c1 c2 c3 c4) (x : Value) : PB (w.setCell ⟨a, 1, none⟩ x) a c0 x c2 c3 c4 := (heap_setCell_same w a 1 _ _ x h).trans rfl
theorem PB.s2 {w : World} {a : Nat} {c0 c1 c2 c3 c4 : Value} (h : PB w a c0 c1 c2 c3 c4) (x : Value) : PB (w.setCell ⟨a, 2, none⟩ x) a c0 c1 x c3 c4 := (heap_setCell_same w a 2 _ _ x h).trans rfl
theorem PB.s3 {w : World} {a : Nat} {c0 c1 c2 c3 c4 : Value} (h : PB w a c0 c1 c2 c3 c4) (x : Value) : PB (w.setCell ⟨a, 3, none⟩ x) a c0 c1 c2 x c4 := (heap_setCell_same w a 3 _ _ x h).trans rfl
theorem PB.s4 {w : World} {a : Nat} {c0 c1 c2 c3 c4 : Value} (h : PB w a c0 c1 c2 c3 c4) (x : Value) : PB (w.setCell ⟨a, 4, none⟩ x) a c0 c1 c2 c3 x := (heap_setCell_same w a 4 _ _ x h).trans rfl
theorem PB.fz {w : World} {a : Nat} {c0 c1 c2 c3 c4 : Value} (h : PB w a c0 c1 c2 c3 c4) (i : Nat) : w.frozen? ⟨a, i, none⟩ = false := frozen_of_row _ _ _ _ _ h

/-- A feed's block. -/
def FB (w : World) (a : Nat) (f : Fd) : Prop := w.heap[a]? = some (.cells #[.int .i64 f.p, .int .i64 f.c, .int .i64 f.m, .int .i64 f.k] 37 (0, 0))
theorem FB.k0 {w : World} {a : Nat} {f : Fd} (h : FB w a f) : w.cell? ⟨a, 0, none⟩ = some (.int .i64 f.p) := by rw [cell_of_row w a 0 _ _ _ h]; rfl
theorem FB.k1 {w : World} {a : Nat} {f : Fd} (h : FB w a f) : w.cell? ⟨a, 1, none⟩ = some (.int .i64 f.c) := by rw [cell_of_row w a 1 _ _ _ h]; rfl
theorem FB.k2 {w : World} {a : Nat} {f : Fd} (h : FB w a f) : w.cell? ⟨a, 2, none⟩ = some (.int .i64 f.m) := by rw [cell_of_row w a 2 _ _ _ h]; rfl
theorem FB.k3 {w : World} {a : Nat} {f : Fd} (h : FB w a f) : w.cell? ⟨a, 3, none⟩ = some (.int .i64 f.k) := by rw [cell_of_row w a 3 _ _ _ h]; rfl

theorem TabAt.put {w w' : World} {t r clock : Nat} {T : List PL} (h : TabAt w t r T clock) {i : Nat} {x : PL} (hx : T[i]? = some x) {m k n : Int}
    (hb : w'.heap[x.e.a]? = some (.cells (PL.mk x.e m k n).cells 56 (0, 0))) (ho : ∀ j, j ≠ x.e.a → j < w.heap.size → w'.heap[j]? = w.heap[j]?) : TabAt w' t r (T.set i ⟨x.e, m, k, n⟩) clock := by
  obtain ⟨hi, hxi⟩ := List.getElem?_eq_some_iff.1 hx
  have hxm : x ∈ T := hxi ▸ List.getElem_mem hi
  have hp := h.pl x hxm
  have e1 : ∀ {β : Type} (q : PL → β), (∀ y, y.e = x.e → q y = q x) → (T.set i ⟨x.e, m, k, n⟩).map q = T.map q := by
    intro β q hq
    rw [List.map_set, hq ⟨x.e, m, k, n⟩ rfl, ← hxi]
    rw [show q T[i] = (T.map q)[i]'(by simpa using hi) by simp]
    exact List.set_getElem_self _
  have ht : t ≠ x.e.a := by
    rintro rfl
    have := h.tb
    rw [hp] at this
    simp at this
  have hr : r ≠ x.e.a := by
    rintro rfl
    have := h.mp
    unfold MapAt at this
    rw [hp] at this
    cases this
  have mem : ∀ y, y ∈ T.set i ⟨x.e, m, k, n⟩ → y = ⟨x.e, m, k, n⟩ ∨ (y ∈ T ∧ y.e.a ≠ x.e.a) := by
    intro y hy
    obtain ⟨j, hj, rfl⟩ := List.getElem_of_mem hy
    by_cases e : i = j
    · subst e
      exact .inl (by simp)
    · rw [List.length_set] at hj
      rw [List.getElem_set_ne e]
      refine .inr ⟨List.getElem_mem hj, fun e2 => e ?_⟩
      have hpw := List.pairwise_iff_getElem.1 h.ad
      rcases Nat.lt_or_gt_of_ne e with hlt | hlt
      · exact (hpw i j (by simpa using hi) (by simpa using hj) hlt (by simp [e2, hxi])).elim
      · exact (hpw j i (by simpa using hj) (by simpa using hi) hlt (by simp [e2, hxi])).elim
  refine ⟨(ho t ht (lt_of_block h.tb)).trans h.tb, ?_, ?_, ?_, ?_, ?_, ?_⟩
  · unfold MapAt
    rw [e1 PL.e (fun y hy => hy)]
    exact (ho r hr (lt_of_block h.mp)).trans h.mp
  · intro y hy
    rcases mem y hy with rfl | ⟨hy, hne⟩
    · exact hb
    · exact (ho _ hne (lt_of_block (h.pl y hy))).trans (h.pl y hy)
  · rw [e1 (fun y => y.e.a) (fun y hy => by simp only [hy])]; exact h.ad
  · intro y hy
    rcases mem y hy with rfl | ⟨hy, _⟩
    · exact h.bn x hxm
    · exact h.bn y hy
  · rw [e1 (fun y => y.e.born) (fun y hy => by simp only [hy])]; exact h.bd
  · rw [e1 (fun y => (y.e.p, y.e.c)) (fun y hy => by simp only [hy])]; exact h.ky

theorem fr_set4 (w : World) (a : Nat) (v0 v1 v2 v3 : Value) : Fr (fun j => j = a) w ((((w.setCell ⟨a, 0, none⟩ v0).setCell ⟨a, 1, none⟩ v1).setCell ⟨a, 2, none⟩ v2).setCell ⟨a, 3, none⟩ v3) := by
  have h0 : Fr (fun j => j = a) w w := Fr.refl _ _
  exact (((h0.setCell (fun _ => rfl) _ _).setCell (fun _ => rfl) _ _).setCell (fun _ => rfl) _ _).setCell (fun _ => rfl) _ _
theorem set_mem {T : List PL} {i : Nat} {y z : PL} (h : z ∈ T.set i y) : z = y ∨ z ∈ T := by
  rcases List.mem_or_eq_of_mem_set h with h | h
  · exact .inr h
  · exact .inl h
theorem adv_old {wr w3 w5 wf : World} {t r c1 : Nat} {T1 : List PL} {i : Nat} {x : PL} {m k n : Int} (hA : TabAt wr t r T1 c1) (F1 : Fr (fun _ => False) wr w3) (hx : T1[i]? = some x) (F5 : Fr (fun _ => False) w3 w5)
    (D : PB wf x.e.a (.int .i64 x.e.p) (.int .i64 x.e.c) (.int .i64 m) (.int .i64 k) (.int .i64 n)) (Fs : Fr (fun j => j = x.e.a) w5 wf) : Adv wr wf t r T1 ((T1.set i ⟨x.e, m, k, n⟩).map PL.pm) := by
  have F := F1.trans F5 (fun _ _ e => e)
  have hxm : x ∈ T1 := List.mem_of_getElem? hx
  refine ⟨_, c1, (hA.same F).put (m := m) (k := k) (n := n) hx D (fun j hj hl => Fs.block j hl hj), ?_, ?_, rfl⟩
  · refine (F.mono (S' := tfoot t r T1) (fun _ _ e => e.elim)).trans Fs (fun j _ e => ?_)
    rw [e]
    exact .inr (.inr ⟨x, hxm, rfl⟩)
  · intro j hj
    rcases hj with e | e | ⟨z, hz, rfl⟩
    · exact .inl (.inl e)
    · exact .inl (.inr (.inl e))
    · rcases set_mem hz with rfl | hz
      · exact .inl (.inr (.inr ⟨x, hxm, rfl⟩))
      · exact .inl (.inr (.inr ⟨z, hz, rfl⟩))
theorem adv_new {wr wc w3 w5 wf : World} {t r c1 a : Nat} {T1 : List PL} {p c m k : Int} (_hA : TabAt wr t r T1 c1) (F1 : Fr (fun _ => False) wr wc) (F3 : Fr (fun j => j = r) wc w3) (hal : wc.heap.size ≤ a)
    (A3 : TabAt w3 t r (T1 ++ [⟨⟨p, c, a, c1⟩, 0, -1, 0⟩]) (c1 + 1)) (F5 : Fr (fun _ => False) w3 w5) (D : PB wf a (.int .i64 p) (.int .i64 c) (.int .i64 m) (.int .i64 k) (.int .i64 0)) (Fs : Fr (fun j => j = a) w5 wf) :
    Adv wr wf t r T1 (T1.map PL.pm ++ [⟨p, c, m, k, 0⟩]) := by
  have hx : (T1 ++ [(⟨⟨p, c, a, c1⟩, 0, -1, 0⟩ : PL)])[T1.length]? = some ⟨⟨p, c, a, c1⟩, 0, -1, 0⟩ := by simp
  have hsz : wr.heap.size ≤ wc.heap.size := F1.size
  refine ⟨(T1 ++ [(⟨⟨p, c, a, c1⟩, 0, -1, 0⟩ : PL)]).set T1.length ⟨⟨p, c, a, c1⟩, m, k, 0⟩, c1 + 1, (A3.same F5).put (m := m) (k := k) (n := 0) hx D (fun j hj hl => Fs.block j hl hj), ?_, ?_, ?_⟩
  · have q0 : Fr (tfoot t r T1) wr wc := F1.mono (fun _ _ e => e.elim)
    have q1 : Fr (tfoot t r T1) wr w3 := q0.trans F3 (fun _ _ e => .inr (.inl e))
    have q2 : Fr (tfoot t r T1) wr w5 := q1.trans F5 (fun _ _ e => e.elim)
    exact q2.trans Fs (fun j hj e => by omega)
  · intro j hj
    rcases hj with e | e | ⟨z, hz, rfl⟩
    · exact .inl (.inl e)
    · exact .inl (.inr (.inl e))
    · rcases set_mem hz with rfl | hz
      · exact .inr (by show wr.heap.size ≤ a; omega)
      · rcases List.mem_append.1 hz with hz | hz
        · exact .inl (.inr (.inr ⟨z, hz, rfl⟩))
        · rw [List.mem_singleton] at hz
          subst hz
          exact .inr (by show wr.heap.size ≤ a; omega)
  · simp [PL.pm]

theorem ins_none {f : Fd} : ∀ {T : List PL} {j : Nat}, fnd f.p f.c (T.map PL.e) j = none → insS f (T.map PL.pm) = T.map PL.pm ++ [⟨f.p, f.c, orI 0 f.m, jc (-1) f.k, 0⟩]
  | [], _, _ => rfl
  | x :: T, j, h => by
    simp only [List.map_cons, fnd] at h
    split at h
    · cases h
    · rename_i hne
      simp only [List.map_cons, insS]
      rw [if_neg (show ¬ (f.p = x.pm.p ∧ f.c = x.pm.c) from hne), ins_none h]
      rfl
theorem ins_some {f : Fd} : ∀ {T : List PL} {i j : Nat} {e : PE} {x : PL}, fnd f.p f.c (T.map PL.e) j = some (i, e) → T[i - j]? = some x → insS f (T.map PL.pm) = (T.set (i - j) ⟨x.e, orI x.m f.m, jc x.k f.k, x.n⟩).map PL.pm
  | [], _, _, _, _, h, _ => by cases h
  | y :: T, i, j, e, x, h, hx => by
    simp only [List.map_cons, fnd] at h
    split at h
    · rename_i he
      cases h
      simp at hx
      subst hx
      simp only [List.map_cons, insS]
      rw [if_pos (show f.p = y.pm.p ∧ f.c = y.pm.c from he)]
      simp [PL.pm]
    · rename_i hne
      have h1 := fnd_some h
      rw [show i - j = (i - (j + 1)) + 1 by omega] at hx ⊢
      simp only [List.map_cons, insS, List.set_cons_succ]
      rw [if_neg (show ¬ (f.p = y.pm.p ∧ f.c = y.pm.c) from hne), ins_some h (by simpa using hx)]

def addN (g : Nat → Fd) (S : List PM) : Nat → List PM
  | 0 => S
  | i + 1 => addS (addN g S i) (g i)

end Go.Proofs.Ytcefeclgehijpaa
