/-
  What is proved here: two tables side by side, one of which is given feeds; no walk.
-/
import Derived.Test.YtcefeclgehijpaaFSame
namespace Go.Proofs.Ytcefeclgehijpaa
open Go Go.RowKit

theorem addN_fold (g : Nat → Fd) (S : List PM) (n : Nat) : addN g S n = ((List.range n).map g).foldl addS S := by
  induction n with
  | zero => rfl
  | succ k ih => rw [List.range_succ, List.map_append, List.foldl_append, ← ih]; rfl
theorem ins_keys (f : Fd) : ∀ (S : List PM), ∀ x ∈ insS f S, (∃ y ∈ S, (x.p, x.c) = (y.p, y.c)) ∨ (x.p, x.c) = keyF f
  | [], x, hx => by
    simp [insS] at hx
    subst hx
    exact .inr rfl
  | y :: S, x, hx => by
    unfold insS at hx
    split at hx
    · rcases List.mem_cons.1 hx with rfl | hx
      · exact .inl ⟨y, by simp, rfl⟩
      · exact .inl ⟨x, by simp [hx], rfl⟩
    · rcases List.mem_cons.1 hx with rfl | hx
      · exact .inl ⟨x, by simp, rfl⟩
      · rcases ins_keys f S x hx with ⟨z, hz, e⟩ | e
        · exact .inl ⟨z, by simp [hz], e⟩
        · exact .inr e
theorem fold_keys : ∀ (l : List Fd) (S : List PM), ∀ x ∈ l.foldl addS S, (∃ y ∈ S, (x.p, x.c) = (y.p, y.c)) ∨ ∃ f ∈ l, (x.p, x.c) = keyF f
  | [], S, x, hx => .inl ⟨x, hx, rfl⟩
  | f :: l, S, x, hx => by
    rcases fold_keys l _ x hx with ⟨y, hy, e⟩ | ⟨g, hg, e⟩
    · unfold addS at hy
      split at hy
      · exact .inl ⟨y, hy, e⟩
      · rcases ins_keys f S y hy with ⟨z, hz, e2⟩ | e2
        · exact .inl ⟨z, hz, e.trans e2⟩
        · exact .inr ⟨f, by simp, e.trans e2⟩
    · exact .inr ⟨g, by simp [hg], e⟩
theorem len_le {T : List PL} {l : List Fd} {g : Nat → Fd} {n : Nat} (ky : (T.map fun x => (x.e.p, x.e.c)).Nodup) (h : T.map PL.pm = l.foldl addS []) (hl : ∀ f ∈ l, ∃ i, i < n ∧ f = g i) : T.length ≤ n := by
  have h1 : (T.map fun x => (x.e.p, x.e.c)).length ≤ ((List.range n).map fun i => keyF (g i)).length := by
    refine List.Nodup.length_le_of_subset ky ?_
    intro b hb
    obtain ⟨x, hx, rfl⟩ := List.mem_map.1 hb
    have hm : x.pm ∈ l.foldl addS [] := by rw [← h]; exact List.mem_map.2 ⟨x, hx, rfl⟩
    rcases fold_keys l [] x.pm hm with ⟨y, hy, _⟩ | ⟨f, hf, e⟩
    · cases hy
    · obtain ⟨i, hi, rfl⟩ := hl f hf
      exact List.mem_map.2 ⟨i, List.mem_range.2 hi, e.symm⟩
  simpa using h1

/-- A table that was given n feeds, and one that is being given some of these. -/
structure TB (w wr : World) (ta ra : Nat) (Ta : List PL) (ca tb rb : Nat) (Tb : List PL) (cb : Nat) (lb : List Fd) (g : Nat → Fd) (n : Nat) : Prop where
  A : TabAt wr ta ra Ta ca
  B : TabAt wr tb rb Tb cb
  la : Ta.map PL.pm = ((List.range n).map g).foldl addS []
  lb' : Tb.map PL.pm = lb.foldl addS []
  mem : ∀ f ∈ lb, ∃ i, i < n ∧ f = g i
  sep : ∀ k, tfoot tb rb Tb k → ¬ tfoot ta ra Ta k ∧ w.heap.size ≤ k
  fr : Fr (fun _ => False) w wr
theorem TB.same {w wr w' : World} {ta ra : Nat} {Ta : List PL} {ca tb rb : Nat} {Tb : List PL} {cb : Nat} {lb : List Fd} {g : Nat → Fd} {n : Nat} (h : TB w wr ta ra Ta ca tb rb Tb cb lb g n) (F : Fr (fun _ => False) wr w') : TB w w' ta ra Ta ca tb rb Tb cb lb g n :=
  ⟨h.A.same F, h.B.same F, h.la, h.lb', h.mem, h.sep, h.fr.trans F (fun _ _ e => e)⟩
theorem TB.add {w wr w' : World} {ta ra : Nat} {Ta : List PL} {ca tb rb : Nat} {Tb : List PL} {cb : Nat} {lb : List Fd} {g : Nat → Fd} {n : Nat} (h : TB w wr ta ra Ta ca tb rb Tb cb lb g n) {f : Fd}
    (A : Adv wr w' tb rb Tb (addN (fun _ => f) (Tb.map PL.pm) 1)) (hf : ∃ i, i < n ∧ f = g i) : ∃ Tb' cb', TB w w' ta ra Ta ca tb rb Tb' cb' (lb ++ [f]) g n := by
  obtain ⟨T', c', B', F', g', e'⟩ := A
  refine ⟨T', c', h.A.fr F' (fun k hk hs => (h.sep k hs).1 hk), B', h.la, ?_, ?_, ?_, ?_⟩
  · rw [e', List.foldl_append, ← h.lb']
    rfl
  · intro x hx
    rcases List.mem_append.1 hx with hx | hx
    · exact h.mem x hx
    · rw [List.mem_singleton] at hx
      subst hx
      exact hf
  · intro k hk
    rcases g' k hk with q | q
    · exact h.sep k q
    · exact ⟨fun hk2 => by have := h.A.lt k hk2; omega, by have := h.fr.size; omega⟩
  · exact h.fr.trans F' (fun k hk hs => by have := (h.sep k hs).2; omega)
theorem TB.done {w wr : World} {ta ra : Nat} {Ta : List PL} {ca tb rb : Nat} {Tb : List PL} {cb : Nat} {lb : List Fd} {g : Nat → Fd} {n : Nat} (h : TB w wr ta ra Ta ca tb rb Tb cb lb g n) (hall : ∀ i, i < n → g i ∈ lb) (p c : Int) : look p c (Ta.map PL.pm) = look p c (Tb.map PL.pm) := by
  have nn : NrmS [] := fun x hx => by cases hx
  rw [h.la, h.lb', look_fold p c _ [] nn, look_fold p c _ [] nn]
  refine val_same p c ?_ ?_
  · intro f hf
    obtain ⟨i, hi, rfl⟩ := List.mem_map.1 hf
    exact hall i (List.mem_range.1 hi)
  · intro f hf
    obtain ⟨i, hi, rfl⟩ := h.mem f hf
    exact List.mem_map.2 ⟨i, List.mem_range.2 hi, rfl⟩
/-- The first n feeds, as cells. -/
theorem frow_cells {w : World} {b off n : Nat} {g : Nat → Fd} (h : ∀ i, i < n → w.cell? ⟨b, off + i * 4, none⟩ = some (.int .i64 (g i).p) ∧ w.cell? ⟨b, off + i * 4 + 1, none⟩ = some (.int .i64 (g i).c) ∧ w.cell? ⟨b, off + i * 4 + 2, none⟩ = some (.int .i64 (g i).m) ∧ w.cell? ⟨b, off + i * 4 + 3, none⟩ = some (.int .i64 (g i).k)) (j : Nat) (u : Value) (hj : (rowV ((List.range n).map g))[j]? = some u) : w.cell? ((⟨b, off, none⟩ : Addr).add j) = some u := by
  have hl : j < n * 4 := by
    have := (List.getElem?_eq_some_iff.1 hj).1
    rw [rowV_len] at this
    simpa using this
  rw [rowV_get _ j (by simpa using hl)] at hj
  have hq : j / 4 < n := by omega
  have e : ((List.range n).map g).getD (j / 4) z0 = g (j / 4) := by simp [hq, List.getD_eq_getElem?_getD]
  rw [e] at hj
  obtain ⟨h0, h1, h2, h3⟩ := h (j / 4) hq
  have ej : j = j / 4 * 4 + j % 4 := by omega
  rw [Addr.add_lit]
  rcases (show j % 4 = 0 ∨ j % 4 = 1 ∨ j % 4 = 2 ∨ j % 4 = 3 by omega) with e4 | e4 | e4 | e4
  · rw [e4] at hj; rw [ej, e4, ← hj]; exact h0
  · rw [e4] at hj; rw [ej, e4, ← hj]; exact h1
  · rw [e4] at hj; rw [ej, e4, ← hj]; exact h2
  · rw [e4] at hj; rw [ej, e4, ← hj]; exact h3
theorem frow_own {w : World} {base n : Nat} {v : Value} {g : Nat → Fd} (h : w.ownsRow base 37 4 v n (rowV ((List.range n).map g))) : ∃ ao cap, v = .slice ao n cap ∧ FRow w ao n g ∧ ∀ b off, ao = some ⟨b, off, none⟩ → n ≠ 0 → b < w.heap.size ∧ base ≤ b := by
  obtain ⟨-, ⟨rfl, rfl⟩ | ⟨gb, cap, cur, rfl, hg, hb, h3, h4, h5, h6⟩⟩ := h
  · exact ⟨none, 0, rfl, .inl rfl, fun _ _ e => by cases e⟩
  · have hH := holds_of_row (L := (List.range n).map g) hb (by simpa using h6)
    have hF := frow_of_holds hH
    refine ⟨some ⟨gb, 0, none⟩, cap, rfl, ?_, fun b off e _ => by cases e; exact ⟨lt_of_block hb, hg⟩⟩
    rcases hF with e | ⟨b, off, e, hc⟩
    · exact .inl (by simpa using e)
    · refine .inr ⟨b, off, e, fun i hi => ?_⟩
      have := hc i (by simpa using hi)
      have e2 : (((((List.range n).map g).map some).toArray.toList).map ob).getD i z0 = g i := by simp [hi, List.getD_eq_getElem?_getD, ob]
      dsimp only at this
      rw [e2] at this
      exact this

end Go.Proofs.Ytcefeclgehijpaa
