/-
  What is proved here: what the frame of every statement of this seat shares: how a list that came in is opened, and a world in which the listed tables hold what the program lays. how a number (api.Num) that came in is opened.
-/
import Derived.Test.YtchdfenickjiiaaRows
import Derived.Test.YtchdfenickjiiaaHLift
import Derived.Test.YtchdfenickjiiaaZB
import Derived.WalkKit
import Derived.ProofKit
import Derived.OpenShut
import Derived.ShutString
import Derived.ChangeOld
import Derived.Below
import Derived.SizedLaws
import Derived.Deep.DeepHandedRow
import Derived.Lib.LaidTab
import Derived.Test.YtchdfenickjiiaaProg
import Derived.WalkLawsBesides
import Derived.Laws.BitsAllLaws
import Derived.Laws.CopyOwn
import Derived.Laws.AppendOwnNone
import Derived.Lib.Strings
import Derived.Lib.AppendStr
import Derived.Laws.IdiomStrings
import Derived.Deep.RegionWith
import Derived.Deep.QuietTactic
import Derived.BigQuiet
import Derived.Handy
import Derived.ChangeSame
import Derived.ChangeArms
namespace Go.Proofs.Ytchdfenickjiiaa
open Go.ChangeShapes Go.WideShapes Go.ChangeAt Go.RowKit

open Go.ChangeMaps (open_string shut_string)
theorem bytesU : Try.prog.bytesOf 57 = 4 := by kernel_rfl

/-- A slice of integers that came in. -/
def IsRow (k : IntKind) (w : World) (a : Option Addr) (len cap : Nat) (zs : List Int) : Prop :=
  (a = none ∧ len = 0 ∧ cap = 0 ∧ zs = []) ∨
  ∃ x, a = some x ∧ len ≤ cap ∧ cap ≤ maxLen ∧ zs.length = cap ∧ (∀ i, i < zs.length → w.cell? (x.add i) = some (.int k (zs.getD i 0))) ∧ ∀ n ∈ zs, (Lit.int k n).wf = true

theorem sl_of_row {w : World} {a : Option Addr} {len cap : Nat} {zs : List Int} (h : IsRow .u32 w a len cap zs) : ∃ f, Sl .u32 w (.slice a len cap) len f ∧ ∀ i, i < len → f i < 4294967296 := by
  rcases h with ⟨rfl, rfl, rfl, rfl⟩ | ⟨x, rfl, h1, h2, h3, h4, h5⟩
  · exact ⟨fun _ => 0, ⟨none, 0, rfl, Nat.le_refl _, by omega, fun _ => rfl, .inl rfl⟩, fun i hi => by omega⟩
  · have hb : ∀ i, i < len → 0 ≤ zs.getD i 0 ∧ zs.getD i 0 < 4294967296 := by
      intro i hi
      have hm : zs.getD i 0 ∈ zs := by
        rw [List.getD_eq_getElem?_getD, List.getElem?_eq_getElem (show i < zs.length by omega)]
        exact List.getElem_mem _
      have := h5 _ hm
      clear hm
      generalize zs.getD i 0 = z at *
      simp [Lit.wf, IntKind.min, IntKind.max, IntKind.signed, IntKind.bits] at this
      omega
    refine ⟨fun i => (zs.getD i 0).toNat, ⟨some x, cap, rfl, h1, h2, (fun e => by cases e), ?_⟩, fun i hi => ?_⟩
    · by_cases h0 : len = 0
      · exact .inl h0
      · obtain ⟨b, off, spot⟩ := x
        have hc := h4 0 (by omega)
        have hspot : spot = none := by simpa [Addr.add] using World.cell?_spot hc
        subst hspot
        refine .inr ⟨b, off, rfl, fun i hi => ?_⟩
        have := h4 i (by omega)
        rw [Addr.add_lit] at this
        rw [this, Int.toNat_of_nonneg (hb i hi).1]
    · have := hb i hi
      show (zs.getD i 0).toNat < 4294967296
      omega

theorem cellsNUM : Try.prog.cellsOf 45 = 2 := by kernel_rfl

theorem cellsB : Try.prog.cellsOf 4 = 1 := by kernel_rfl

theorem cellsL : Try.prog.cellsOf 43 = 1 := by kernel_rfl

set_option maxRecDepth 100000 in
/-- A number that came in, opened: its sign and its limbs; how many they can be at the most; that its bulk is no less. -/
theorem open_num {H : Type} {enc : TypeId × Value → H} {W : World} {base : Nat} {v : Value} {d : DataW H} {p : List MemPlace} (hok : Value.okWide Try.prog W .any base 45 v) (h : DataW.Trod enc Try.prog W 0 (fun _ => true) true 45 v d p) :
    ∃ b n f, Nm W v b n f ∧ (∀ i, i < n → f i < 4294967296) ∧
      (∀ (ts : List TypeId) (ds : List (DataW H)) (j : Nat), (DataW.weightsEach Try.prog ts ds).all (· ≤ reachBytes) = true → ts[j]? = some 45 → ds[j]? = some d → n ≤ 35184372087808) ∧ n ≤ Rows.uptoBulk d := by
  obtain ⟨cs, rfl, hsz⟩ := okWide_struct Try.underlying45 hok
  rw [cellsNUM] at hsz
  obtain ⟨c0, c1, rfl⟩ : ∃ c0 c1, cs = #[c0, c1] := by
    obtain ⟨l⟩ := cs
    match l, hsz with
    | [c0, c1], _ => exact ⟨c0, c1, rfl⟩
  obtain ⟨fuel, hf⟩ := h
  obtain ⟨y0, y1, m, hx, hlen, h0, h1⟩ := trod_struct2 Try.underlying45 hf
  rw [cellsB] at h0
  rw [cellsL] at h1
  replace h0 : DataW.trod enc Try.prog W 0 (fun _ => true) true m 4 [c0] = some y0 := h0
  replace h1 : DataW.trod enc Try.prog W 0 (fun _ => true) true m 43 [c1] = some y1 := h1
  obtain ⟨b, hb, e0⟩ := DataW.trod_bool Try.underlying4 h0
  cases hb
  obtain ⟨rfl, rfl⟩ := Prod.mk.inj hx
  rcases open_ints Try.underlying43 Try.underlying57 (by kernel_rfl) h1 with ⟨hcs, _⟩ | ⟨x, l, c, zs, hcs, hx1, hl, hm, hz, hx2, hcell, hwz⟩
  · cases hcs
    obtain ⟨f, h1, h2⟩ := sl_of_row (w := W) (a := none) (len := 0) (cap := 0) (zs := []) (.inl ⟨rfl, rfl, rfl, rfl⟩)
    exact ⟨b, 0, f, ⟨_, rfl, h1⟩, h2, fun _ _ _ _ _ _ => by omega, Nat.zero_le _⟩
  · cases hcs
    have hz' : zs.length = c := by simpa using hz
    obtain ⟨f, g1, g2⟩ := sl_of_row (w := W) (a := some x) (len := l) (cap := c) (zs := zs) (.inr ⟨_, rfl, hl, hm, hz', hcell, hwz⟩)
    subst hx2
    refine ⟨b, l, f, ⟨_, rfl, g1⟩, g2, fun ts ds j hw ht hd => ?_, ?_⟩
    · have hall := List.all_eq_true.1 hw
      have hmem := DataW.weights_mem_each (P := Try.prog) ht hd
      have hm2 : zs.length * 4 ≤ reachBytes := by
        refine of_decide_eq_true (hall _ (hmem _ ?_))
        have e : ∀ (y : DataW H) (z : DataW H), DataW.weights Try.prog 45 (DataW.agg [y, z]) = DataW.weightsEach Try.prog [4, 43] [y, z] := fun y z => by
          rw [DataW.weights, Try.underlying45]
          rfl
        rw [e]
        simp only [DataW.weightsEach, List.mem_append]
        refine .inr (.inl ?_)
        rw [DataW.weights, Try.underlying43]
        simp only [bytesU, lits, List.length_map, List.length_take, List.length_drop]
        rw [show min l zs.length + (zs.length - l) = zs.length from by omega]
        exact List.mem_cons_self
      rw [show reachBytes = 140737488351232 from rfl] at hm2
      omega
    · simp only [Rows.uptoBulk, Rows.uptoBulkAll, bulk_lits, List.length_take, List.length_drop]
      omega

end Go.Proofs.Ytchdfenickjiiaa
