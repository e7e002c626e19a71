/-
  What is proved here: how a row of feeds, and a row of numbers, that came in are opened.
-/
import Derived.Test.YtcefeclgehijpaaFLift
import Derived.Test.YtcefeclgehijpaaFSee
import Derived.Deep.Strs
namespace Go.Proofs.Ytcefeclgehijpaa
open Go.ChangeShapes Go.WideShapes Go.ChangeAt Go.RowKit

theorem bytesFeed : Try.prog.bytesOf 37 = 32 := by kernel_rfl
set_option maxRecDepth 100000 in
theorem open_feeds {H : Type} {enc : TypeId × Value → H} {W : World} {ao : Option Addr} {len cap : Nat} {d : DataW H} {p : List MemPlace} (h : DataW.Trod enc Try.prog W 0 (fun _ => true) true 26 (.slice ao len cap) d p) :
    ∃ g : Nat → Fd, FRow W ao len g ∧ (∀ i, i < len → (g i).ok) ∧ (ao = none → len = 0 ∧ cap = 0) ∧
      (∀ (ts : List TypeId) (ds : List (DataW H)) (j : Nat), (DataW.weightsEach Try.prog ts ds).all (· ≤ reachBytes) = true → ts[j]? = some 26 → ds[j]? = some d → len * 32 ≤ 140737488355328) := by
  obtain ⟨fuel, hf⟩ := h
  rcases Go.Deep.open_slice Try.underlying26 hf with ⟨hcs, hx⟩ | ⟨a, len', cap', m, n, D, Pl, hcs, hb, hl, hm, hmm, hx, hel⟩
  · simp [Value.cells] at hcs
    obtain ⟨rfl, rfl, rfl⟩ := hcs
    exact ⟨fun _ => ⟨0, 0, 0, 0⟩, .inl rfl, fun i hi => by omega, fun _ => ⟨rfl, rfl⟩, fun _ _ _ _ _ _ => by omega⟩
  · simp [Value.cells] at hcs
    obtain ⟨rfl, rfl, rfl⟩ := hcs
    obtain ⟨rfl, rfl⟩ := Prod.mk.inj hx
    simp at hmm
    subst hmm
    rw [cellsFeed] at hel
    have hall : ∀ i, i < len → ∃ f : Fd, W.cell? ((a.add (i * 4)).add 0) = some (.int .i64 f.p) ∧ W.cell? ((a.add (i * 4)).add 1) = some (.int .i64 f.c) ∧ W.cell? ((a.add (i * 4)).add 2) = some (.int .i64 f.m) ∧ W.cell? ((a.add (i * 4)).add 3) = some (.int .i64 f.k) ∧ f.ok := fun i hi => by
      obtain ⟨cs', h1, h2⟩ := hel i (by omega)
      obtain ⟨-, hlen, hc⟩ := World.cells?_some h1
      obtain ⟨f, rfl, q⟩ := feed_cells hlen h2
      exact ⟨f, by rw [hc 0 (by omega)]; rfl, by rw [hc 1 (by omega)]; rfl, by rw [hc 2 (by omega)]; rfl, by rw [hc 3 (by omega)]; rfl, q⟩
    obtain ⟨Y, hY⟩ : ∃ Y : Nat → Fd, ∀ i, i < len → W.cell? ((a.add (i * 4)).add 0) = some (.int .i64 (Y i).p) ∧ W.cell? ((a.add (i * 4)).add 1) = some (.int .i64 (Y i).c) ∧ W.cell? ((a.add (i * 4)).add 2) = some (.int .i64 (Y i).m) ∧ W.cell? ((a.add (i * 4)).add 3) = some (.int .i64 (Y i).k) ∧ (Y i).ok :=
      ⟨fun i => if h : i < len then Classical.choose (hall i h) else ⟨0, 0, 0, 0⟩, fun i hi => by simp only [hi, dif_pos]; exact Classical.choose_spec (hall i hi)⟩
    refine ⟨Y, ?_, fun i hi => (hY i hi).2.2.2.2, (fun e => by cases e), fun ts ds j hw ht hd => ?_⟩
    · by_cases h0 : len = 0
      · exact .inl h0
      · obtain ⟨b, off, spot⟩ := a
        have hspot : spot = none := by
          have h7 := (hY 0 (by omega)).1
          simpa [Addr.add] using World.cell?_spot h7
        subst hspot
        refine .inr ⟨b, off, rfl, fun j hj => ?_⟩
        obtain ⟨q0, q1, q2, q3, -⟩ := hY j hj
        rw [Addr.add_lit, Addr.add_lit] at q0 q1 q2 q3
        exact ⟨q0, q1, q2, q3⟩
    · have := sized_slice hw ht hd Try.underlying26
      rw [bytesFeed] at this
      simp only [List.length_map, List.length_range, reachBytes] at this
      omega
theorem open_nums {H : Type} {enc : TypeId × Value → H} {W : World} {ao : Option Addr} {len cap : Nat} {d : DataW H} {p : List MemPlace} (h : DataW.Trod enc Try.prog W 0 (fun _ => true) true 27 (.slice ao len cap) d p) :
    ∃ g, IRow W ao len g ∧ len ≤ 9223372036854775807 ∧ ∀ i, i < len → I64 (g i) := by
  obtain ⟨fuel, hf⟩ := h
  rcases open_ints Try.underlying27 Try.underlying3 (by kernel_rfl) hf with ⟨hcs, _⟩ | ⟨x, l, c, zs, hcs, hx1, hl, hm, hz, hx2, hcell, hwz⟩
  · simp [Value.cells] at hcs
    obtain ⟨rfl, rfl, rfl⟩ := hcs
    exact ⟨fun _ => 0, .inl rfl, by decide, fun i hi => by omega⟩
  · simp [Value.cells] at hcs
    obtain ⟨rfl, rfl, rfl⟩ := hcs
    have hz' : zs.length = cap := by simpa using hz
    refine ⟨fun i => zs.getD i 0, ?_, by unfold maxLen at hm; omega, fun i hi => ?_⟩
    · by_cases h0 : len = 0
      · exact .inl h0
      · obtain ⟨b, off, spot⟩ := x
        have hc := hcell 0 (by omega)
        have hspot : spot = none := by simpa [Addr.add] using World.cell?_spot hc
        subst hspot
        refine .inr ⟨b, off, rfl, fun i hi => ?_⟩
        have := hcell i (by omega)
        rw [Addr.add_lit] at this
        exact this
    · have hmm : zs.getD i 0 ∈ zs := by
        rw [List.getD_eq_getElem?_getD, List.getElem?_eq_getElem (show i < zs.length by omega)]
        exact List.getElem_mem _
      exact i64_of (hwz _ hmm)

end Go.Proofs.Ytcefeclgehijpaa
