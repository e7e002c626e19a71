/-
  What is proved here: how a number (api.Num) that came in is opened.
-/
import Derived.Test.YteipogfolnlblaaDoorLiftX
import Derived.Test.YteipogfolnlblaaDoorWQB
import Derived.ChangeSame
import Derived.ChangeArms
namespace Go.Proofs.YteipogfolnlblaaDoor
open Go.ChangeShapes Go.WideShapes Go.ChangeAt Go.RowKit

theorem cellsNUM : Tryd.prog.cellsOf 24 = 2 := by kernel_rfl
theorem cellsB : Tryd.prog.cellsOf 4 = 1 := by kernel_rfl
theorem cellsL : Tryd.prog.cellsOf 22 = 1 := by kernel_rfl

set_option maxRecDepth 100000 in
/-- A number that came in, opened: its sign and its limbs; how many they can be at the most; that its bulk is no less. -/
theorem open_num {H : Type} {enc : TypeId × Value → H} {W : World} {base : Nat} {v : Value} {d : DataW H} {p : List MemPlace} (hok : Value.okWide Tryd.prog W .any base 24 v) (h : DataW.Trod enc Tryd.prog W 0 (fun _ => true) true 24 v d p) :
    ∃ b n f, Nm W v b n f ∧ (∀ i, i < n → f i < 4294967296) ∧
      (∀ (ts : List TypeId) (ds : List (DataW H)) (j : Nat), (DataW.weightsEach Tryd.prog ts ds).all (· ≤ reachBytes) = true → ts[j]? = some 24 → ds[j]? = some d → n ≤ 35184372087808) ∧ n ≤ Rows.uptoBulk d := by
  obtain ⟨cs, rfl, hsz⟩ := okWide_struct Tryd.underlying24 hok
  rw [cellsNUM] at hsz
  obtain ⟨c0, c1, rfl⟩ : ∃ c0 c1, cs = #[c0, c1] := by
    obtain ⟨l⟩ := cs
    match l, hsz with
    | [c0, c1], _ => exact ⟨c0, c1, rfl⟩
  obtain ⟨fuel, hf⟩ := h
  obtain ⟨y0, y1, m, hx, hlen, h0, h1⟩ := trod_struct2 Tryd.underlying24 hf
  rw [cellsB] at h0
  rw [cellsL] at h1
  replace h0 : DataW.trod enc Tryd.prog W 0 (fun _ => true) true m 4 [c0] = some y0 := h0
  replace h1 : DataW.trod enc Tryd.prog W 0 (fun _ => true) true m 22 [c1] = some y1 := h1
  obtain ⟨b, hb, e0⟩ := DataW.trod_bool Tryd.underlying4 h0
  cases hb
  obtain ⟨rfl, rfl⟩ := Prod.mk.inj hx
  rcases open_ints Tryd.underlying22 Tryd.underlying63 (by kernel_rfl) h1 with ⟨hcs, _⟩ | ⟨x, l, c, zs, hcs, hx1, hl, hm, hz, hx2, hcell, hwz⟩
  · cases hcs
    obtain ⟨f, h1, h2⟩ := sl_of_row (w := W) (a := none) (len := 0) (cap := 0) (zs := []) (.inl ⟨rfl, rfl, rfl, rfl⟩)
    exact ⟨b, 0, f, ⟨_, rfl, h1⟩, h2, fun _ _ _ _ _ _ => by omega, Nat.zero_le _⟩
  · cases hcs
    have hz' : zs.length = c := by simpa using hz
    obtain ⟨f, g1, g2⟩ := sl_of_row (w := W) (a := some x) (len := l) (cap := c) (zs := zs) (.inr ⟨_, rfl, hl, hm, hz', hcell, hwz⟩)
    subst hx2
    refine ⟨b, l, f, ⟨_, rfl, g1⟩, g2, fun ts ds j hw ht hd => ?_, ?_⟩
    · have hall := List.all_eq_true.1 hw
      have hmem := DataW.weights_mem_each (P := Tryd.prog) ht hd
      have hm2 : zs.length * 4 ≤ reachBytes := by
        refine of_decide_eq_true (hall _ (hmem _ ?_))
        have e : ∀ (y : DataW H) (z : DataW H), DataW.weights Tryd.prog 24 (DataW.agg [y, z]) = DataW.weightsEach Tryd.prog [4, 22] [y, z] := fun y z => by
          rw [DataW.weights, Tryd.underlying24]
          rfl
        rw [e]
        simp only [DataW.weightsEach, List.mem_append]
        refine .inr (.inl ?_)
        rw [DataW.weights, Tryd.underlying22]
        simp only [bytesU, lits, List.length_map, List.length_take, List.length_drop]
        rw [show min l zs.length + (zs.length - l) = zs.length from by omega]
        exact List.mem_cons_self
      rw [show reachBytes = 140737488351232 from rfl] at hm2
      omega
    · simp only [Rows.uptoBulk, Rows.uptoBulkAll, bulk_lits, List.length_take, List.length_drop]
      omega

end Go.Proofs.YteipogfolnlblaaDoor
