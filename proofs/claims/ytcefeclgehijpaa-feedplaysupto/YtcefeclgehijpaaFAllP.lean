/-
  What is proved here: rows of feeds, and how they are held while they are sorted; no walk.
-/
import Derived.Test.YtcefeclgehijpaaFSaw
namespace Go.Proofs.Ytcefeclgehijpaa
open Go Go.RowKit Go.Sort

/-- The cells of feeds. -/
def rowV (L : List Fd) : List Value := L.flatMap encF
theorem rowV_get : ∀ (L : List Fd) (t : Nat), t < L.length * 4 → (rowV L)[t]? = some (encF (L.getD (t / 4) z0))[t % 4]!
  | [], t, h => by simp at h
  | f :: L, t, h => by
    simp only [rowV, List.flatMap_cons]
    by_cases h4 : t < 4
    · rw [List.getElem?_append_left (by simpa [encF] using h4), Nat.div_eq_of_lt h4, Nat.mod_eq_of_lt h4]
      have hl : t < (encF f).length := by simpa [encF] using h4
      rw [List.getElem?_eq_getElem hl]
      simp [hl]
    · rw [List.getElem?_append_right (by simp [encF]; omega)]
      have e : (encF f).length = 4 := rfl
      rw [e]
      have := rowV_get L (t - 4) (by simp at h; omega)
      have e1 : t / 4 = (t - 4) / 4 + 1 := by omega
      have e2 : t % 4 = (t - 4) % 4 := by omega
      rw [e1, e2]
      simpa [rowV] using this
theorem holds_of_row {w : World} {g : Nat} {cur : Array Value} {L : List Fd} (hb : w.heap[g]? = some (.cells cur 37 (0, 0))) (hc : cur.toList.take (L.length * 4) = rowV L) : HoldsK encO 4 w g 0 (L.map some).toArray := by
  intro j hj
  have hj' : j < L.length * 4 := by simpa using hj
  refine ⟨?_, frozen_of_row w g _ cur _ hb⟩
  rw [Nat.zero_add, cell_of_row w g j cur _ _ hb, get_flatK _ _ _ _ (by simpa using hj')]
  have h1 := rowV_get L j hj'
  rw [← hc, List.getElem?_take_of_lt hj'] at h1
  rw [Array.getElem?_toList] at h1
  rw [h1]
  have hq : j / 4 < L.length := by omega
  simp [encO, ob, hq, List.getD_eq_getElem?_getD]
theorem frow_of_holds {w : World} {g : Nat} {d : Array (Option Fd)} (h : HoldsK encO 4 w g 0 d) : FRow w (some ⟨g, 0, none⟩) d.size (fun i => (d.toList.map ob).getD i z0) := by
  refine .inr ⟨g, 0, rfl, fun i hi => ?_⟩
  have e : ∀ q, q < 4 → w.cell? ⟨g, 0 + (i * 4 + q), none⟩ = some (encF (ob d[i]!))[q]! := by
    intro q hq
    have := (h (i * 4 + q) (by simp; omega)).1
    rw [get_flatK _ _ _ _ (by omega), show (i * 4 + q) / 4 = i by omega, show (i * 4 + q) % 4 = q by omega] at this
    exact this
  have ed : (d.toList.map ob).getD i z0 = ob d[i]! := by simp [hi, List.getD_eq_getElem?_getD]
  simp only [ed]
  exact ⟨e 0 (by omega), by rw [Nat.add_assoc]; exact e 1 (by omega), by rw [Nat.add_assoc]; exact e 2 (by omega), by rw [Nat.add_assoc]; exact e 3 (by omega)⟩
theorem perm_list {L : List Fd} {d' : Array (Option Fd)} (h : PermIn 0 (L.map some).toArray.size (L.map some).toArray d') : (d'.toList.map ob).Perm L ∧ d'.size = L.length := by
  obtain ⟨h1, -, h3⟩ := h
  have h1' : d'.size = L.length := by simpa using h1
  refine ⟨?_, h1'⟩
  have e1 : d'.extract 0 (L.map some).toArray.size = d' := by rw [← h1]; simp
  have e2 : (L.map some).toArray.extract 0 (L.map some).toArray.size = (L.map some).toArray := by simp [List.take_of_length_le]
  rw [e1, e2] at h3
  have h4 := h3.map ob
  have e3 : ((L.map some).toArray.toList).map ob = L := by
    show (L.map some).map ob = L
    rw [List.map_map]
    conv => rhs; rw [← List.map_id L]
    rfl
  rw [e3] at h4
  exact h4
theorem pair_list {n : Nat} {d' : Array (Option Fd)} (hn : d'.size = n) (h : SortedIn (Go.Proofs.ltOf cmpO) 0 n d') : (d'.toList.map ob).Pairwise (fun x y => ¬ ltF y x) := by
  rw [List.pairwise_map, List.pairwise_iff_getElem]
  intro i j hi hj hij
  simp at hi hj
  have := h i j (Nat.zero_le _) hij (by omega)
  rw [lt_cmpOF] at this
  simpa [hi, hj] using this
theorem perm_born {D T : List PL} (hs : ∀ x ∈ D, x ∈ T) (hd : (D.map fun x => x.e.born).Nodup) (ht : (T.map fun x => x.e.born).Nodup) (hall : ∀ x ∈ T, x.e.born ∈ D.map fun x => x.e.born) : D.Perm T := by
  have inj : ∀ x ∈ T, ∀ y ∈ T, x.e.born = y.e.born → x = y := by
    intro x hx y hy e
    obtain ⟨i, hi, rfl⟩ := List.getElem_of_mem hx
    obtain ⟨j, hj, rfl⟩ := List.getElem_of_mem hy
    have hpw := List.pairwise_iff_getElem.1 ht
    rcases Nat.lt_trichotomy i j with hlt | rfl | hlt
    · exact (hpw i j (by simpa using hi) (by simpa using hj) hlt (by simpa using e)).elim
    · rfl
    · exact (hpw j i (by simpa using hj) (by simpa using hi) hlt (by simpa using e.symm)).elim
  have dn : D.Nodup := (List.pairwise_map.1 hd).imp (fun h e => h (by rw [e]))
  have tn : T.Nodup := (List.pairwise_map.1 ht).imp (fun h e => h (by rw [e]))
  rw [List.perm_ext_iff_of_nodup dn tn]
  intro a
  refine ⟨hs a, fun ha => ?_⟩
  obtain ⟨y, hy, e⟩ := List.mem_map.1 (hall a ha)
  rw [inj a ha y (hs y hy) e.symm]
  exact hy

end Go.Proofs.Ytcefeclgehijpaa
