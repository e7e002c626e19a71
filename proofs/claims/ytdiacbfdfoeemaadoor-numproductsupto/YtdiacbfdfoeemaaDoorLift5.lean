/-
  What is proved here: how a list of numbers that came in is opened.
-/
import Derived.Test.YtdiacbfdfoeemaaDoorLift3
import Derived.Test.YtdiacbfdfoeemaaDoorLift4
import Derived.Test.YtdiacbfdfoeemaaDoorNAll
namespace Go.Proofs.YtdiacbfdfoeemaaDoor
open Go.ChangeShapes Go.WideShapes Go.ChangeAt Go.RowKit

set_option maxRecDepth 100000 in
theorem open_numE {H : Type} {enc : TypeId × Value → H} {W : World} {fuel : Nat} {cs : List Value} {d : DataW H} {p : List MemPlace} (hlen : cs.length = 2) (hf : DataW.trod enc Tryd.prog W 0 (fun _ => true) true fuel 26 cs = some (d, p)) :
    ∃ (b : Bool) (u : Value) (n : Nat) (f : Nat → Nat), cs = [.bool b, u] ∧ Sl .u32 W u n f ∧ (∀ i, i < n → f i < 4294967296) ∧ n + 1 ≤ Rows.uptoBulk d := by
  match cs, hlen with
  | [c0, c1], _ =>
    obtain ⟨y0, y1, m, hx, -, h0, h1⟩ := trod_struct2 Tryd.underlying26 hf
    rw [cellsB] at h0
    rw [cellsL] at h1
    replace h0 : DataW.trod enc Tryd.prog W 0 (fun _ => true) true m 4 [c0] = some y0 := h0
    replace h1 : DataW.trod enc Tryd.prog W 0 (fun _ => true) true m 24 [c1] = some y1 := h1
    obtain ⟨b, hb, e0⟩ := DataW.trod_bool Tryd.underlying4 h0
    cases hb
    obtain ⟨rfl, rfl⟩ := Prod.mk.inj hx
    rcases open_ints Tryd.underlying24 Tryd.underlying64 (by kernel_rfl) h1 with ⟨hcs, _⟩ | ⟨x, l, c, zs, hcs, hx1, hl, hm, hz, hx2, hcell, hwz⟩
    · cases hcs
      obtain ⟨f, h1, h2⟩ := sl_of_row (w := W) (a := none) (len := 0) (cap := 0) (zs := []) (.inl ⟨rfl, rfl, rfl, rfl⟩)
      exact ⟨b, _, 0, f, rfl, h1, h2, by simp [Rows.uptoBulk]⟩
    · cases hcs
      have hz' : zs.length = c := by simpa using hz
      obtain ⟨f, g1, g2⟩ := sl_of_row (w := W) (a := some x) (len := l) (cap := c) (zs := zs) (.inr ⟨_, rfl, hl, hm, hz', hcell, hwz⟩)
      subst hx2
      refine ⟨b, _, l, f, rfl, g1, g2, ?_⟩
      simp only [Rows.uptoBulk, Rows.uptoBulkAll, bulk_lits, List.length_take, List.length_drop]
      omega

set_option maxRecDepth 100000 in
/-- A list of numbers that came in, opened. -/
theorem open_nums {H : Type} {enc : TypeId × Value → H} {W : World} {mo : Option Addr} {k capm : Nat} {d : DataW H} {p : List MemPlace} (h : DataW.Trod enc Tryd.prog W 0 (fun _ => true) true 22 (.slice mo k capm) d p) :
    ∃ (vs : Nat → Value) (bs : Nat → Bool) (ns : Nat → Nat) (fs : Nat → Nat → Nat), RdN W mo k vs bs ∧ (∀ i, i < k → Sl .u32 W (vs i) (ns i) (fs i)) ∧ (∀ j, j < k → ∀ i, i < ns j → fs j i < 4294967296) ∧
      k ≤ Rows.uptoBulk d ∧ (∀ j, j < k → ns j ≤ Rows.uptoBulk d) ∧ sumN ns k ≤ Rows.uptoBulk d := by
  obtain ⟨fuel, hf⟩ := h
  rcases Go.Deep.open_slice Tryd.underlying22 hf with ⟨hcs, _⟩ | ⟨a, len, cap, m, n, D, Pl, hcs, hb, hl, hm, hmm, hx, hel⟩
  · simp [Value.cells] at hcs
    obtain ⟨rfl, rfl, rfl⟩ := hcs
    exact ⟨fun _ => .slice none 0 0, fun _ => false, fun _ => 0, fun _ _ => 0, .inl rfl, fun i hi => by omega, fun j hj => by omega, by omega, (fun j hj => by omega), by simp [sumN]⟩
  · simp [Value.cells] at hcs
    obtain ⟨rfl, rfl, rfl⟩ := hcs
    obtain ⟨rfl, rfl⟩ := Prod.mk.inj hx
    simp at hmm
    subst hmm
    rw [cellsNUM] at hel
    have hall : ∀ i, i < k → ∃ y : Bool × Value × Nat × (Nat → Nat), (W.cell? ((a.add (i * 2)).add 0) = some (.bool y.1) ∧ W.cell? ((a.add (i * 2)).add 1) = some y.2.1) ∧ Sl .u32 W y.2.1 y.2.2.1 y.2.2.2 ∧ (∀ j, j < y.2.2.1 → y.2.2.2 j < 4294967296) ∧ y.2.2.1 + 1 ≤ Rows.uptoBulk (D i) := fun i hi => by
      obtain ⟨cs', h1, h2⟩ := hel i (by omega)
      obtain ⟨-, hlen, hc⟩ := World.cells?_some h1
      obtain ⟨b, u, n', f, rfl, h3, h4, h5⟩ := open_numE hlen h2
      refine ⟨(b, u, n', f), ⟨?_, ?_⟩, h3, h4, h5⟩
      · have := hc 0 (by decide)
        simpa using this
      · have := hc 1 (by decide)
        simpa using this
    obtain ⟨Y, hY⟩ := Go.Deep.choose_lt hall
    refine ⟨fun i => (Y i).2.1, fun i => (Y i).1, fun i => (Y i).2.2.1, fun i => (Y i).2.2.2, ?_, fun i hi => (hY i hi).2.1, fun j hj => (hY j hj).2.2.1, ?_, fun j hj => ?_, ?_⟩
    · by_cases h0 : k = 0
      · exact .inl h0
      · obtain ⟨b, off, spot⟩ := a
        have hc := (hY 0 (by omega)).1.1
        have hspot : spot = none := by simpa [Addr.add] using World.cell?_spot hc
        subst hspot
        refine .inr ⟨b, off, rfl, fun i hi => ?_⟩
        have := (hY i (by omega)).1
        rw [Addr.add_lit, Addr.add_lit, Addr.add_lit] at this
        exact this
    · have := bulk_count D k (fun i hi => by have := (hY i hi).2.2.2; omega)
      simp only [Rows.uptoBulk]
      omega
    · have h1 := bulk_get D k j hj
      have h2 := (hY j hj).2.2.2
      simp only [Rows.uptoBulk]
      omega
    · have := bulk_sum D (fun i => (Y i).2.2.1) k (fun i hi => by have := (hY i hi).2.2.2; omega)
      simp only [Rows.uptoBulk]
      omega

end Go.Proofs.YtdiacbfdfoeemaaDoor
