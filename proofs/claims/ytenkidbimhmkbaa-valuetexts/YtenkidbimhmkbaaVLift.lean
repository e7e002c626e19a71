/-
  What is proved here: how a list of bytes that came in is opened.
-/
import Derived.Test.YtenkidbimhmkbaaHLift
import Derived.Test.YtenkidbimhmkbaaVTxt
namespace Go.Proofs.Ytenkidbimhmkbaa
open Go.ChangeShapes Go.WideShapes Go.ChangeAt Go.RowKit

theorem bytesB : Try.prog.bytesOf 5 = 1 := by kernel_rfl
theorem open_listB {H : Type} {enc : TypeId × Value → H} {W : World} {ao : Option Addr} {len cap : Nat} {d : DataW H} {p : List MemPlace} (h : DataW.Trod enc Try.prog W 0 (fun _ => true) true 38 (.slice ao len cap) d p) :
    ∃ g, RdB W (.slice ao len cap) len g ∧ (∀ i, i < len → g i < 256) ∧
      (∀ (ts : List TypeId) (ds : List (DataW H)) (j : Nat), (DataW.weightsEach Try.prog ts ds).all (· ≤ reachBytes) = true → ts[j]? = some 38 → ds[j]? = some d → len ≤ 140737488351232) ∧ len ≤ Rows.uptoBulk d := by
  obtain ⟨fuel, hf⟩ := h
  rcases open_ints Try.underlying38 Try.underlying5 (by kernel_rfl) hf with ⟨hcs, _⟩ | ⟨x, l, c, zs, hcs, hx1, hl, hm, hz, hx2, hcell, hwz⟩
  · simp [Value.cells] at hcs
    obtain ⟨rfl, rfl, rfl⟩ := hcs
    exact ⟨fun _ => 0, .inl ⟨rfl, rfl⟩, fun i hi => by omega, fun _ _ _ _ _ _ => by omega, by omega⟩
  · simp [Value.cells] at hcs
    obtain ⟨rfl, rfl, rfl⟩ := hcs
    have hz' : zs.length = cap := by simpa using hz
    have hb : ∀ i, i < len → 0 ≤ zs.getD i 0 ∧ zs.getD i 0 ≤ 255 := by
      intro i hi
      have hmm : zs.getD i 0 ∈ zs := by
        rw [List.getD_eq_getElem?_getD, List.getElem?_eq_getElem (show i < zs.length by omega)]
        exact List.getElem_mem _
      have := hwz _ hmm
      clear hmm
      generalize zs.getD i 0 = z at *
      simp [Lit.wf, IntKind.min, IntKind.max, IntKind.signed, IntKind.bits] at this
      omega
    obtain ⟨rfl, rfl⟩ := Prod.mk.inj hx2
    refine ⟨fun i => (zs.getD i 0).toNat, ?_, fun i hi => by have := hb i hi; show (zs.getD i 0).toNat < 256; omega, fun ts ds j hw ht hd => ?_, ?_⟩
    · by_cases h0 : len = 0
      · subst h0
        exact .inr (.inl ⟨x, _, rfl, rfl⟩)
      · obtain ⟨b, off, spot⟩ := x
        have hc := hcell 0 (by omega)
        have hspot : spot = none := by simpa [Addr.add] using World.cell?_spot hc
        subst hspot
        refine .inr (.inr ⟨b, off, cap, rfl, hl, fun i hi => ?_⟩)
        have := hcell i (by omega)
        rw [Addr.add_lit] at this
        rw [this, Int.toNat_of_nonneg (hb i hi).1]
    · have := sized_slice hw ht hd Try.underlying38
      rw [bytesB] at this
      simp only [lits, List.length_map, List.length_take, List.length_drop, reachBytes] at this
      omega
    · simp only [Rows.uptoBulk, bulk_lits, List.length_take, List.length_drop]
      omega

end Go.Proofs.Ytenkidbimhmkbaa
