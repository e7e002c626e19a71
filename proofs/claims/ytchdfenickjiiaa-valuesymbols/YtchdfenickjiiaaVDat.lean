/-
  What is proved here: a struct of two cells, and one of seven, stored whole; no walk.
-/
import Derived.Test.YtchdfenickjiiaaVRoom
namespace Go.Proofs.Ytchdfenickjiiaa
open Go Go.RowKit

theorem stoF2 {w1 : World} {g : Nat} {c0 c1 : Value} {E : TypeId} (h : w1.heap[g]? = some (.cells #[c0, c1] E (0, 0))) (v0 v1 : Value) :
    ((w1.setCell ⟨g, 0, none⟩ v0).setCell ⟨g, 1, none⟩ v1).heap[g]? = some (.cells #[v0, v1] E (0, 0)) ∧ Fr (fun k => k = g) w1 ((w1.setCell ⟨g, 0, none⟩ v0).setCell ⟨g, 1, none⟩ v1) := by
  have h1 := heap_setCell_same w1 g 0 _ E v0 h
  exact ⟨heap_setCell_same (w1.setCell ⟨g, 0, none⟩ v0) g 1 _ E v1 h1, Fr.setCell (S := fun k => k = g) (Fr.setCell (S := fun k => k = g) (Fr.refl _ w1) (fun _ => rfl) _ _) (fun _ => rfl) _ _⟩
theorem fz2 {w1 : World} {g : Nat} {c0 c1 : Value} {E : TypeId} (h : w1.heap[g]? = some (.cells #[c0, c1] E (0, 0))) : w1.frozen? ⟨g, 0, none⟩ = false ∧ w1.frozen? ⟨g, 1, none⟩ = false ∧ w1.cell? ⟨g, 0, none⟩ = some c0 ∧ w1.cell? ⟨g, 1, none⟩ = some c1 :=
  ⟨frozen_of_row w1 g 0 _ E h, frozen_of_row w1 g 1 _ E h, cell_of_row w1 g 0 _ E (0, 0) h, cell_of_row w1 g 1 _ E (0, 0) h⟩

theorem stoF7 {w1 : World} {g : Nat} {c0 c1 c2 c3 c4 c5 c6 : Value} {E : TypeId} (h : w1.heap[g]? = some (.cells #[c0, c1, c2, c3, c4, c5, c6] E (0, 0))) (v0 v1 v2 v3 v4 v5 v6 : Value) :
    (((((((w1.setCell ⟨g, 0, none⟩ v0).setCell ⟨g, 1, none⟩ v1).setCell ⟨g, 2, none⟩ v2).setCell ⟨g, 3, none⟩ v3).setCell ⟨g, 4, none⟩ v4).setCell ⟨g, 5, none⟩ v5).setCell ⟨g, 6, none⟩ v6).heap[g]? = some (.cells #[v0, v1, v2, v3, v4, v5, v6] E (0, 0)) ∧ Fr (fun k => k = g) w1 (((((((w1.setCell ⟨g, 0, none⟩ v0).setCell ⟨g, 1, none⟩ v1).setCell ⟨g, 2, none⟩ v2).setCell ⟨g, 3, none⟩ v3).setCell ⟨g, 4, none⟩ v4).setCell ⟨g, 5, none⟩ v5).setCell ⟨g, 6, none⟩ v6) := by
  have s0 : (#[c0, c1, c2, c3, c4, c5, c6] : Array Value).setIfInBounds 0 v0 = #[v0, c1, c2, c3, c4, c5, c6] := rfl
  have s1 : (#[v0, c1, c2, c3, c4, c5, c6] : Array Value).setIfInBounds 1 v1 = #[v0, v1, c2, c3, c4, c5, c6] := rfl
  have s2 : (#[v0, v1, c2, c3, c4, c5, c6] : Array Value).setIfInBounds 2 v2 = #[v0, v1, v2, c3, c4, c5, c6] := rfl
  have s3 : (#[v0, v1, v2, c3, c4, c5, c6] : Array Value).setIfInBounds 3 v3 = #[v0, v1, v2, v3, c4, c5, c6] := rfl
  have s4 : (#[v0, v1, v2, v3, c4, c5, c6] : Array Value).setIfInBounds 4 v4 = #[v0, v1, v2, v3, v4, c5, c6] := rfl
  have s5 : (#[v0, v1, v2, v3, v4, c5, c6] : Array Value).setIfInBounds 5 v5 = #[v0, v1, v2, v3, v4, v5, c6] := rfl
  have s6 : (#[v0, v1, v2, v3, v4, v5, c6] : Array Value).setIfInBounds 6 v6 = #[v0, v1, v2, v3, v4, v5, v6] := rfl
  have h1 := heap_setCell_same w1 g 0 _ E v0 h
  rw [s0] at h1
  have f1 : Fr (fun k => k = g) w1 (w1.setCell ⟨g, 0, none⟩ v0) := Fr.setCell (S := fun k => k = g) (Fr.refl _ w1) (fun _ => rfl) _ _
  generalize w1.setCell ⟨g, 0, none⟩ v0 = wa at *
  have h2 := heap_setCell_same wa g 1 _ E v1 h1
  rw [s1] at h2
  have f2 := f1.setCell (g := g) (fun _ => rfl) 1 v1
  generalize wa.setCell ⟨g, 1, none⟩ v1 = wb at *
  have h3 := heap_setCell_same wb g 2 _ E v2 h2
  rw [s2] at h3
  have f3 := f2.setCell (g := g) (fun _ => rfl) 2 v2
  generalize wb.setCell ⟨g, 2, none⟩ v2 = wc at *
  have h4 := heap_setCell_same wc g 3 _ E v3 h3
  rw [s3] at h4
  have f4 := f3.setCell (g := g) (fun _ => rfl) 3 v3
  generalize wc.setCell ⟨g, 3, none⟩ v3 = wd at *
  have h5 := heap_setCell_same wd g 4 _ E v4 h4
  rw [s4] at h5
  have f5 := f4.setCell (g := g) (fun _ => rfl) 4 v4
  generalize wd.setCell ⟨g, 4, none⟩ v4 = we at *
  have h6 := heap_setCell_same we g 5 _ E v5 h5
  rw [s5] at h6
  have f6 := f5.setCell (g := g) (fun _ => rfl) 5 v5
  generalize we.setCell ⟨g, 5, none⟩ v5 = wf at *
  have h7 := heap_setCell_same wf g 6 _ E v6 h6
  rw [s6] at h7
  have f7 := f6.setCell (g := g) (fun _ => rfl) 6 v6
  exact ⟨h7, f7⟩
theorem cells7 {w1 : World} {g : Nat} {c0 c1 c2 c3 c4 c5 c6 : Value} {E : TypeId} (h : w1.heap[g]? = some (.cells #[c0, c1, c2, c3, c4, c5, c6] E (0, 0))) : w1.cell? ⟨g, 0, none⟩ = some c0 ∧ w1.cell? ⟨g, 1, none⟩ = some c1 ∧ w1.cell? ⟨g, 2, none⟩ = some c2 ∧ w1.cell? ⟨g, 3, none⟩ = some c3 ∧ w1.cell? ⟨g, 4, none⟩ = some c4 ∧ w1.cell? ⟨g, 5, none⟩ = some c5 ∧ w1.cell? ⟨g, 6, none⟩ = some c6 :=
  ⟨cell_of_row w1 g 0 _ E (0, 0) h, cell_of_row w1 g 1 _ E (0, 0) h, cell_of_row w1 g 2 _ E (0, 0) h, cell_of_row w1 g 3 _ E (0, 0) h, cell_of_row w1 g 4 _ E (0, 0) h, cell_of_row w1 g 5 _ E (0, 0) h, cell_of_row w1 g 6 _ E (0, 0) h⟩
theorem frozen7 {w1 : World} {g : Nat} {c0 c1 c2 c3 c4 c5 c6 : Value} {E : TypeId} (h : w1.heap[g]? = some (.cells #[c0, c1, c2, c3, c4, c5, c6] E (0, 0))) : w1.frozen? ⟨g, 0, none⟩ = false ∧ w1.frozen? ⟨g, 1, none⟩ = false ∧ w1.frozen? ⟨g, 2, none⟩ = false ∧ w1.frozen? ⟨g, 3, none⟩ = false ∧ w1.frozen? ⟨g, 4, none⟩ = false ∧ w1.frozen? ⟨g, 5, none⟩ = false ∧ w1.frozen? ⟨g, 6, none⟩ = false :=
  ⟨frozen_of_row w1 g 0 _ E h, frozen_of_row w1 g 1 _ E h, frozen_of_row w1 g 2 _ E h, frozen_of_row w1 g 3 _ E h, frozen_of_row w1 g 4 _ E h, frozen_of_row w1 g 5 _ E h, frozen_of_row w1 g 6 _ E h⟩

end Go.Proofs.Ytchdfenickjiiaa
