/-
  What is proved here: how a list of lists that came in is opened.
-/
import Derived.Test.YtdiacbfdfoeemaaDoorLift
import Derived.Test.YtdiacbfdfoeemaaDoorMul
import Derived.Deep.Slices
namespace Go.Proofs.YtdiacbfdfoeemaaDoor
open Go.ChangeShapes Go.WideShapes Go.ChangeAt Go.RowKit

theorem cellsLU : Tryd.prog.cellsOf 24 = 1 := by kernel_rfl

theorem open_elem {H : Type} {enc : TypeId × Value → H} {W : World} {fuel : Nat} {x : Value} {d : DataW H} {p : List MemPlace} (hf : DataW.trod enc Tryd.prog W 0 (fun _ => true) true fuel 24 [x] = some (d, p)) :
    ∃ (len : Nat) (f : Nat → Nat), Sl .u32 W x len f ∧ (∀ i, i < len → f i < 4294967296) ∧ len + 1 ≤ Rows.uptoBulk d := by
  rcases open_ints Tryd.underlying24 Tryd.underlying64 (by kernel_rfl) hf with ⟨hcs, hx⟩ | ⟨a, l, c, zs, hcs, hx1, hl, hm, hz, hx2, hcell, hwz⟩
  · cases hcs
    obtain ⟨rfl, rfl⟩ := Prod.mk.inj hx
    obtain ⟨f, h1, h2⟩ := sl_of_row (w := W) (a := none) (len := 0) (cap := 0) (zs := []) (.inl ⟨rfl, rfl, rfl, rfl⟩)
    exact ⟨0, f, h1, h2, by simp [Rows.uptoBulk]⟩
  · cases hcs
    have hz' : zs.length = c := by simpa using hz
    obtain ⟨f, h1, h2⟩ := sl_of_row (w := W) (a := some a) (len := l) (cap := c) (zs := zs) (.inr ⟨_, rfl, hl, hm, hz', hcell, hwz⟩)
    obtain ⟨rfl, rfl⟩ := Prod.mk.inj hx2
    refine ⟨l, f, h1, h2, ?_⟩
    simp only [Rows.uptoBulk, bulk_lits, List.length_take, List.length_drop]
    omega

theorem bulk_append {H : Type} (a b : List (DataW H)) : Rows.uptoBulkAll (a ++ b) = Rows.uptoBulkAll a + Rows.uptoBulkAll b := by
  induction a with
  | nil => simp [Rows.uptoBulkAll]
  | cons x a ih =>
    simp only [List.cons_append, Rows.uptoBulkAll]
    rw [ih]
    omega
theorem bulk_get {H : Type} (D : Nat → DataW H) (k i : Nat) (hi : i < k) : Rows.uptoBulk (D i) ≤ Rows.uptoBulkAll ((List.range k).map D) := by
  induction k with
  | zero => omega
  | succ k ih =>
    rw [List.range_succ, List.map_append, bulk_append]
    simp only [List.map_cons, List.map_nil, Rows.uptoBulkAll]
    by_cases e : i = k
    · subst e; omega
    · have := ih (by omega); omega
theorem bulk_count {H : Type} (D : Nat → DataW H) (k : Nat) (h : ∀ i, i < k → 1 ≤ Rows.uptoBulk (D i)) : k ≤ Rows.uptoBulkAll ((List.range k).map D) := by
  induction k with
  | zero => omega
  | succ k ih =>
    rw [List.range_succ, List.map_append, bulk_append]
    simp only [List.map_cons, List.map_nil, Rows.uptoBulkAll]
    have := ih (fun i hi => h i (by omega))
    have := h k (by omega)
    omega

/-- A list of lists that came in, opened. -/
theorem open_lists {H : Type} {enc : TypeId × Value → H} {W : World} {mo : Option Addr} {k capm : Nat} {d : DataW H} {p : List MemPlace} (h : DataW.Trod enc Tryd.prog W 0 (fun _ => true) true 83 (.slice mo k capm) d p) :
    ∃ (vs : Nat → Value) (ns : Nat → Nat) (fs : Nat → Nat → Nat), Rds W mo k vs ∧ (mo = none → k = 0 ∧ capm = 0) ∧ (∀ i, i < k → Sl .u32 W (vs i) (ns i) (fs i)) ∧ (∀ j, j < k → ∀ i, i < ns j → fs j i < 4294967296) ∧
      k ≤ capm ∧ k ≤ Rows.uptoBulk d ∧ ∀ j, j < k → ns j ≤ Rows.uptoBulk d := by
  obtain ⟨fuel, hf⟩ := h
  rcases Go.Deep.open_slice1 Tryd.underlying83 cellsLU hf with ⟨hcs, _⟩ | ⟨a, len, cap, m, n, V, D, Pl, hcs, hb, hl, hm, hmm, hx, hel⟩
  · simp [Value.cells] at hcs
    obtain ⟨rfl, rfl, rfl⟩ := hcs
    exact ⟨fun _ => .slice none 0 0, fun _ => 0, fun _ _ => 0, .inl rfl, fun _ => ⟨rfl, rfl⟩, fun i hi => by omega, fun j hj => by omega, Nat.le_refl _, by omega, fun j hj => by omega⟩
  · simp [Value.cells] at hcs
    obtain ⟨rfl, rfl, rfl⟩ := hcs
    obtain ⟨rfl, rfl⟩ := Prod.mk.inj hx
    simp at hmm
    subst hmm
    have hall : ∀ i, i < k → ∃ y : Nat × (Nat → Nat), Sl .u32 W (V i) y.1 y.2 ∧ (∀ j, j < y.1 → y.2 j < 4294967296) ∧ y.1 + 1 ≤ Rows.uptoBulk (D i) := fun i hi => by
      obtain ⟨len, f, h1, h2, h3⟩ := open_elem (hel i (by omega)).2
      exact ⟨(len, f), h1, h2, h3⟩
    obtain ⟨Y, hY⟩ := Go.Deep.choose_lt hall
    refine ⟨V, fun i => (Y i).1, fun i => (Y i).2, ?_, (fun e => by cases e), fun i hi => (hY i hi).1, fun j hj => (hY j hj).2.1, hl, ?_, fun j hj => ?_⟩
    · by_cases h0 : k = 0
      · exact .inl h0
      · obtain ⟨b, off, spot⟩ := a
        have hc := (hel 0 (by omega)).1
        have hspot : spot = none := by simpa [Addr.add] using World.cell?_spot hc
        subst hspot
        refine .inr ⟨b, off, rfl, fun i hi => ?_⟩
        have := (hel i (by omega)).1
        rwa [Addr.add_lit] at this
    · have := bulk_count D k (fun i hi => by have := (hY i hi).2.2; omega)
      simp only [Rows.uptoBulk]
      omega
    · have h1 := bulk_get D k j hj
      have h2 := (hY j hj).2.2
      simp only [Rows.uptoBulk]
      omega

end Go.Proofs.YtdiacbfdfoeemaaDoor
