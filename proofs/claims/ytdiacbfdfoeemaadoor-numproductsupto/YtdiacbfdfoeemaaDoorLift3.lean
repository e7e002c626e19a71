/-
  What is proved here: how a list of lists that came in is opened, with a bound on all limbs together.
-/
import Derived.Test.YtdiacbfdfoeemaaDoorLift2
namespace Go.Proofs.YtdiacbfdfoeemaaDoor
open Go.ChangeShapes Go.WideShapes Go.ChangeAt Go.RowKit

theorem bulk_sum {H : Type} (D : Nat → DataW H) (ns : Nat → Nat) (k : Nat) (h : ∀ i, i < k → ns i ≤ Rows.uptoBulk (D i)) : sumN ns k ≤ Rows.uptoBulkAll ((List.range k).map D) := by
  induction k with
  | zero => simp [sumN]
  | succ k ih =>
    rw [List.range_succ, List.map_append, bulk_append]
    simp only [List.map_cons, List.map_nil, Rows.uptoBulkAll]
    have h1 := ih (fun i hi => h i (by omega))
    have h2 := h k (by omega)
    show sumN ns k + ns k ≤ _
    omega

/-- A list of lists that came in, opened. -/
theorem open_lists2 {H : Type} {enc : TypeId × Value → H} {W : World} {mo : Option Addr} {k capm : Nat} {d : DataW H} {p : List MemPlace} (h : DataW.Trod enc Tryd.prog W 0 (fun _ => true) true 83 (.slice mo k capm) d p) :
    ∃ (vs : Nat → Value) (ns : Nat → Nat) (fs : Nat → Nat → Nat), Rds W mo k vs ∧ (mo = none → k = 0 ∧ capm = 0) ∧ (∀ i, i < k → Sl .u32 W (vs i) (ns i) (fs i)) ∧ (∀ j, j < k → ∀ i, i < ns j → fs j i < 4294967296) ∧
      k ≤ capm ∧ k ≤ Rows.uptoBulk d ∧ (∀ j, j < k → ns j ≤ Rows.uptoBulk d) ∧ sumN ns k ≤ Rows.uptoBulk d := by
  obtain ⟨fuel, hf⟩ := h
  rcases Go.Deep.open_slice1 Tryd.underlying83 cellsLU hf with ⟨hcs, _⟩ | ⟨a, len, cap, m, n, V, D, Pl, hcs, hb, hl, hm, hmm, hx, hel⟩
  · simp [Value.cells] at hcs
    obtain ⟨rfl, rfl, rfl⟩ := hcs
    exact ⟨fun _ => .slice none 0 0, fun _ => 0, fun _ _ => 0, .inl rfl, fun _ => ⟨rfl, rfl⟩, fun i hi => by omega, fun j hj => by omega, Nat.le_refl _, by omega, (fun j hj => by omega), by simp [sumN]⟩
  · simp [Value.cells] at hcs
    obtain ⟨rfl, rfl, rfl⟩ := hcs
    obtain ⟨rfl, rfl⟩ := Prod.mk.inj hx
    simp at hmm
    subst hmm
    have hall : ∀ i, i < k → ∃ y : Nat × (Nat → Nat), Sl .u32 W (V i) y.1 y.2 ∧ (∀ j, j < y.1 → y.2 j < 4294967296) ∧ y.1 + 1 ≤ Rows.uptoBulk (D i) := fun i hi => by
      obtain ⟨len, f, h1, h2, h3⟩ := open_elem (hel i (by omega)).2
      exact ⟨(len, f), h1, h2, h3⟩
    obtain ⟨Y, hY⟩ := Go.Deep.choose_lt hall
    refine ⟨V, fun i => (Y i).1, fun i => (Y i).2, ?_, (fun e => by cases e), fun i hi => (hY i hi).1, fun j hj => (hY j hj).2.1, hl, ?_, fun j hj => ?_, ?_⟩
    · by_cases h0 : k = 0
      · exact .inl h0
      · obtain ⟨b, off, spot⟩ := a
        have hc := (hel 0 (by omega)).1
        have hspot : spot = none := by simpa [Addr.add] using World.cell?_spot hc
        subst hspot
        refine .inr ⟨b, off, rfl, fun i hi => ?_⟩
        have := (hel i (by omega)).1
        rwa [Addr.add_lit] at this
    · have := bulk_count D k (fun i hi => by have := (hY i hi).2.2; omega)
      simp only [Rows.uptoBulk]
      omega
    · have h1 := bulk_get D k j hj
      have h2 := (hY j hj).2.2
      simp only [Rows.uptoBulk]
      omega
    · have := bulk_sum D (fun i => (Y i).1) k (fun i hi => by have := (hY i hi).2.2; omega)
      simp only [Rows.uptoBulk]
      omega

end Go.Proofs.YtdiacbfdfoeemaaDoor
