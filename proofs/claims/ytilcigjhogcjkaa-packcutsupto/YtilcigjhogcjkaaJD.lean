/-
  What is proved here: what the frame of every statement of this seat shares: how a list that came in is opened, and a world in which the listed tables hold what the program lays. how a datum, and a list of data, that came in is opened.
-/
import Derived.Test.YtilcigjhogcjkaaRows
import Derived.Test.YtilcigjhogcjkaaBase
import Derived.WalkKit
import Derived.ProofKit
import Derived.OpenShut
import Derived.ShutString
import Derived.ChangeOld
import Derived.Below
import Derived.SizedLaws
import Derived.Deep.DeepHandedRow
import Derived.Lib.LaidTab
import Derived.Test.YtilcigjhogcjkaaJB
import Derived.Test.YtilcigjhogcjkaaRLift
import Derived.Deep.Slices
import Derived.ChangeSame
import Derived.ChangeArms
namespace Go.Proofs.Ytilcigjhogcjkaa
open Go.ChangeShapes Go.WideShapes Go.ChangeAt Go.RowKit

open Go.ChangeMaps (open_string shut_string)
theorem bytesU : Try.prog.bytesOf 65 = 4 := by kernel_rfl

/-- A slice of integers that came in. -/
def IsRow (k : IntKind) (w : World) (a : Option Addr) (len cap : Nat) (zs : List Int) : Prop :=
  (a = none ∧ len = 0 ∧ cap = 0 ∧ zs = []) ∨
  ∃ x, a = some x ∧ len ≤ cap ∧ cap ≤ maxLen ∧ zs.length = cap ∧ (∀ i, i < zs.length → w.cell? (x.add i) = some (.int k (zs.getD i 0))) ∧ ∀ n ∈ zs, (Lit.int k n).wf = true

theorem sl_of_row {w : World} {a : Option Addr} {len cap : Nat} {zs : List Int} (h : IsRow .u32 w a len cap zs) : ∃ f, Sl .u32 w (.slice a len cap) len f ∧ ∀ i, i < len → f i < 4294967296 := by
  rcases h with ⟨rfl, rfl, rfl, rfl⟩ | ⟨x, rfl, h1, h2, h3, h4, h5⟩
  · exact ⟨fun _ => 0, ⟨none, 0, rfl, Nat.le_refl _, by omega, fun _ => rfl, .inl rfl⟩, fun i hi => by omega⟩
  · have hb : ∀ i, i < len → 0 ≤ zs.getD i 0 ∧ zs.getD i 0 < 4294967296 := by
      intro i hi
      have hm : zs.getD i 0 ∈ zs := by
        rw [List.getD_eq_getElem?_getD, List.getElem?_eq_getElem (show i < zs.length by omega)]
        exact List.getElem_mem _
      have := h5 _ hm
      clear hm
      generalize zs.getD i 0 = z at *
      simp [Lit.wf, IntKind.min, IntKind.max, IntKind.signed, IntKind.bits] at this
      omega
    refine ⟨fun i => (zs.getD i 0).toNat, ⟨some x, cap, rfl, h1, h2, (fun e => by cases e), ?_⟩, fun i hi => ?_⟩
    · by_cases h0 : len = 0
      · exact .inl h0
      · obtain ⟨b, off, spot⟩ := x
        have hc := h4 0 (by omega)
        have hspot : spot = none := by simpa [Addr.add] using World.cell?_spot hc
        subst hspot
        refine .inr ⟨b, off, rfl, fun i hi => ?_⟩
        have := h4 i (by omega)
        rw [Addr.add_lit] at this
        rw [this, Int.toNat_of_nonneg (hb i hi).1]
    · have := hb i hi
      show (zs.getD i 0).toNat < 4294967296
      omega

/-- A list that came in, opened: its limbs; how long it can be at the most; that its bulk is no less than its length. -/
theorem open_list {H : Type} {enc : TypeId × Value → H} {W : World} {ao : Option Addr} {len cap : Nat} {d : DataW H} {p : List MemPlace} (h : DataW.Trod enc Try.prog W 0 (fun _ => true) true 60 (.slice ao len cap) d p) :
    ∃ f, Sl .u32 W (.slice ao len cap) len f ∧ (∀ i, i < len → f i < 4294967296) ∧
      (∀ (ts : List TypeId) (ds : List (DataW H)) (j : Nat), (DataW.weightsEach Try.prog ts ds).all (· ≤ reachBytes) = true → ts[j]? = some 60 → ds[j]? = some d → len ≤ 35184372087808) ∧ len ≤ Rows.uptoBulk d := by
  obtain ⟨fuel, hf⟩ := h
  rcases open_ints Try.underlying60 Try.underlying65 (by kernel_rfl) hf with ⟨hcs, _⟩ | ⟨x, l, c, zs, hcs, hx1, hl, hm, hz, hx2, hcell, hwz⟩
  · simp [Value.cells] at hcs
    obtain ⟨rfl, rfl, rfl⟩ := hcs
    obtain ⟨f, h1, h2⟩ := sl_of_row (w := W) (a := none) (len := 0) (cap := 0) (zs := []) (.inl ⟨rfl, rfl, rfl, rfl⟩)
    exact ⟨f, h1, h2, fun _ _ _ _ _ _ => by omega, by omega⟩
  · simp [Value.cells] at hcs
    obtain ⟨rfl, rfl, rfl⟩ := hcs
    have hz' : zs.length = cap := by simpa using hz
    obtain ⟨f, h1, h2⟩ := sl_of_row (w := W) (a := some x) (len := len) (cap := cap) (zs := zs) (.inr ⟨_, rfl, hl, hm, hz', hcell, hwz⟩)
    obtain ⟨rfl, rfl⟩ := Prod.mk.inj hx2
    refine ⟨f, h1, h2, fun ts ds j hw ht hd => ?_, ?_⟩
    · have := sized_slice hw ht hd Try.underlying60
      rw [bytesU] at this
      simp only [lits, List.length_map, List.length_take, List.length_drop, reachBytes] at this
      omega
    · simp only [Rows.uptoBulk, bulk_lits, List.length_take, List.length_drop]
      omega

theorem bulk_pos {H : Type} (d : DataW H) : 1 ≤ Rows.uptoBulk d := by
  cases d with
  | lit l => cases l <;> simp [Rows.uptoBulk]
  | _ => simp [Rows.uptoBulk]

theorem bulk_append {H : Type} (a b : List (DataW H)) : Rows.uptoBulkAll (a ++ b) = Rows.uptoBulkAll a + Rows.uptoBulkAll b := by
  induction a with
  | nil => simp [Rows.uptoBulkAll]
  | cons x a ih =>
    simp only [List.cons_append, Rows.uptoBulkAll, ih]
    omega

theorem bulk_get {H : Type} (D : Nat → DataW H) (k i : Nat) (hi : i < k) : Rows.uptoBulk (D i) ≤ Rows.uptoBulkAll ((List.range k).map D) := by
  induction k with
  | zero => omega
  | succ k ih =>
    rw [List.range_succ, List.map_append, bulk_append]
    simp only [List.map_cons, List.map_nil, Rows.uptoBulkAll]
    by_cases e : i = k
    · subst e; omega
    · have := ih (by omega); omega

theorem bulk_sum {H α : Type} (D : Nat → DataW H) (Y : Nat → α) (m : α → Nat) (k : Nat) (h : ∀ i, i < k → m (Y i) ≤ Rows.uptoBulk (D i)) : (((List.range k).map Y).map m).sum ≤ Rows.uptoBulkAll ((List.range k).map D) := by
  induction k with
  | zero => simp
  | succ k ih =>
    rw [List.range_succ, List.map_append, List.map_append, List.sum_append, List.map_append, bulk_append]
    have h1 := ih (fun i hi => h i (by omega))
    have h2 := h k (by omega)
    simp [Rows.uptoBulkAll] at *
    omega

theorem trod_struct6 {P : Program} {H : Type} {enc : TypeId × Value → H} {w : World} {base : Nat} {spare : Nat → Bool} {held : Bool} {t : TypeId} {f0 f1 f2 f3 f4 f5 : Field} {fuel : Nat} {cs : List Value} {x : DataW H × List MemPlace} (ht : P.underlying t = some (.struct #[f0, f1, f2, f3, f4, f5])) (h : DataW.trod enc P w base spare held fuel t cs = some x) :
    ∃ y0 y1 y2 y3 y4 y5 n, x.1 = .agg [y0.1, y1.1, y2.1, y3.1, y4.1, y5.1] ∧ DataW.trod enc P w base spare held n f0.type ((cs.drop f0.offset).take (P.cellsOf f0.type)) = some y0 ∧
      DataW.trod enc P w base spare held n f1.type ((cs.drop f1.offset).take (P.cellsOf f1.type)) = some y1 ∧ DataW.trod enc P w base spare held n f2.type ((cs.drop f2.offset).take (P.cellsOf f2.type)) = some y2 ∧
      DataW.trod enc P w base spare held n f3.type ((cs.drop f3.offset).take (P.cellsOf f3.type)) = some y3 ∧ DataW.trod enc P w base spare held n f4.type ((cs.drop f4.offset).take (P.cellsOf f4.type)) = some y4 ∧
      DataW.trod enc P w base spare held n f5.type ((cs.drop f5.offset).take (P.cellsOf f5.type)) = some y5 := by
  obtain ⟨xs, n, _, rfl, hl, hlen, hf⟩ := DataW.trod_struct ht h
  match xs, hlen with
  | [y0, y1, y2, y3, y4, y5], _ => exact ⟨y0, y1, y2, y3, y4, y5, n, by simp, by simpa using hf 0 f0 rfl, by simpa using hf 1 f1 rfl, by simpa using hf 2 f2 rfl, by simpa using hf 3 f3 rfl, by simpa using hf 4 f4 rfl, by simpa using hf 5 f5 rfl⟩

theorem cellsI3 : Try.prog.cellsOf 3 = 1 := by kernel_rfl

theorem cellsNUM : Try.prog.cellsOf 62 = 2 := by kernel_rfl

theorem cellsB : Try.prog.cellsOf 4 = 1 := by kernel_rfl

theorem cellsLU : Try.prog.cellsOf 60 = 1 := by kernel_rfl

theorem cellsS : Try.prog.cellsOf 9 = 1 := by kernel_rfl

theorem cellsLD : Try.prog.cellsOf 45 = 1 := by kernel_rfl

theorem cellsD : Try.prog.cellsOf 64 = 7 := by kernel_rfl

set_option maxRecDepth 100000 in
/-- A row of data that came in, given how one is opened. -/
theorem open_row {H : Type} {enc : TypeId × Value → H} {W : World} {N : Nat} (hone : ∀ (fuel : Nat) (cs : List Value) (d : DataW H) (p : List MemPlace), cs.length = 7 → DataW.trod enc Try.prog W 0 (fun _ => true) true fuel 64 cs = some (d, p) → Rows.uptoBulk d ≤ N → ∃ t : Tr N, DatC W N t cs ∧ bk N t ≤ Rows.uptoBulk d)
    {fuel : Nat} {v : Value} {y : DataW H × List MemPlace} (hf : DataW.trod enc Try.prog W 0 (fun _ => true) true fuel 45 [v] = some y) (hN : Rows.uptoBulk y.1 ≤ N + 1) :
    ∃ I : List (Tr N), RowD W (DatC W N) v I ∧ (I.map (bk N)).sum + 1 ≤ Rows.uptoBulk y.1 := by
  rcases Go.Deep.open_slice Try.underlying45 hf with ⟨hcs, hx⟩ | ⟨a, len, cap, m, n, D, Pl, hcs, hb, hl, hm, hmm, hx, hel⟩
  · simp at hcs
    subst hcs
    exact ⟨[], RowD.nil' _ _, by rw [hx]; simp [Rows.uptoBulk]⟩
  · simp at hcs
    subst hcs
    subst hx
    simp at hmm
    subst hmm
    rw [cellsD] at hel
    have hbk : ∀ i, i < len → Rows.uptoBulk (D i) ≤ N := fun i hi => by
      have h1 := bulk_get D len i hi
      simp only [Rows.uptoBulk] at hN
      omega
    have hall : ∀ i, i < len → ∃ t : Tr N, (∃ cs, cs.length = 7 ∧ (∀ j, j < 7 → W.cell? ((a.add (i * 7)).add j) = cs[j]?) ∧ DatC W N t cs) ∧ bk N t ≤ Rows.uptoBulk (D i) := fun i hi => by
      obtain ⟨cs', h1, h2⟩ := hel i (by omega)
      obtain ⟨-, hlen, hc⟩ := World.cells?_some h1
      obtain ⟨t, h3, h4⟩ := hone _ _ _ _ hlen h2 (hbk i hi)
      exact ⟨t, ⟨cs', hlen, fun j hj => by rw [hc j (by omega)], h3⟩, h4⟩
    by_cases h00 : len = 0
    · subst h00
      exact ⟨[], ⟨some a, m, rfl, Nat.zero_le _, by unfold maxLen at hm; omega, .inl rfl⟩, by simp only [Rows.uptoBulk]; simp⟩
    haveI : Inhabited (Tr N) := ⟨Classical.choose (hall 0 (by omega))⟩
    obtain ⟨Y, hY⟩ := Go.Deep.choose_lt hall
    refine ⟨(List.range len).map Y, ⟨some a, m, by simp, by simpa using hl, by unfold maxLen at hm; omega, ?_⟩, ?_⟩
    · by_cases h0 : len = 0
      · exact .inl (by simp [h0])
      · obtain ⟨b, off, spot⟩ := a
        obtain ⟨cs0, hl0, hc0, -⟩ := (hY 0 (by omega)).1
        have hspot : spot = none := by
          have h7 := hc0 0 (by decide)
          have : cs0[0]? = some (cs0[0]'(by omega)) := List.getElem?_eq_getElem (by omega)
          rw [this] at h7
          simpa [Addr.add] using World.cell?_spot h7
        subst hspot
        refine .inr ⟨b, off, rfl, fun i hi => ?_⟩
        have hi' : i < len := by simpa using hi
        obtain ⟨cs, hl1, hc1, hd1⟩ := (hY i hi').1
        refine ⟨cs, hl1, fun j hj => ?_, by simpa using hd1⟩
        have := hc1 j hj
        rw [Addr.add_lit, Addr.add_lit] at this
        exact this
    · have := bulk_sum D Y (bk N) len (fun i hi => (hY i hi).2)
      simp only [Rows.uptoBulk]
      omega

set_option maxRecDepth 100000 in
/-- A datum that came in. -/
theorem open_dat {H : Type} {enc : TypeId × Value → H} {W : World} : (N : Nat) → (fuel : Nat) → (cs : List Value) → (d : DataW H) → (p : List MemPlace) → cs.length = 7 → DataW.trod enc Try.prog W 0 (fun _ => true) true fuel 64 cs = some (d, p) → Rows.uptoBulk d ≤ N → ∃ t : Tr N, DatC W N t cs ∧ bk N t ≤ Rows.uptoBulk d
  | 0, fuel, cs, d, p, hlen, hf, hN => by
    obtain ⟨y0, y1, y2, y3, y4, y5, m, hx, -⟩ := trod_struct6 Try.underlying64 hf
    replace hx : d = _ := hx
    subst hx
    simp [Rows.uptoBulk] at hN
  | N + 1, fuel, cs, d, p, hlen, hf, hN => by
    obtain ⟨y0, y1, y2, y3, y4, y5, m, hx, h0, h1, h2, h3, h4, h5⟩ := trod_struct6 Try.underlying64 hf
    match cs, hlen with
    | [c0, c1, c2, c3, c4, c5, c6], _ =>
      rw [cellsI3] at h0 h1
      rw [cellsNUM] at h2
      rw [cellsS] at h3
      rw [cellsLD] at h4 h5
      replace h0 : DataW.trod enc Try.prog W 0 (fun _ => true) true m 3 [c0] = some y0 := h0
      replace h1 : DataW.trod enc Try.prog W 0 (fun _ => true) true m 3 [c1] = some y1 := h1
      replace h2 : DataW.trod enc Try.prog W 0 (fun _ => true) true m 62 [c2, c3] = some y2 := h2
      replace h3 : DataW.trod enc Try.prog W 0 (fun _ => true) true m 9 [c4] = some y3 := h3
      replace h4 : DataW.trod enc Try.prog W 0 (fun _ => true) true m 45 [c5] = some y4 := h4
      replace h5 : DataW.trod enc Try.prog W 0 (fun _ => true) true m 45 [c6] = some y5 := h5
      obtain ⟨z0, e0, x0, r0⟩ := DataW.trod_int Try.underlying3 h0
      obtain ⟨z1, e1, x1, r1⟩ := DataW.trod_int Try.underlying3 h1
      obtain ⟨w0, w1, m', hx2, -, g0, g1⟩ := trod_struct2 Try.underlying62 h2
      rw [cellsB] at g0
      rw [cellsLU] at g1
      replace g0 : DataW.trod enc Try.prog W 0 (fun _ => true) true m' 4 [c2] = some w0 := g0
      replace g1 : DataW.trod enc Try.prog W 0 (fun _ => true) true m' 60 [c3] = some w1 := g1
      obtain ⟨bb, e2, x2⟩ := DataW.trod_bool Try.underlying4 g0
      obtain ⟨s, e3, x3, m3⟩ := DataW.trod_string Try.underlying9 h3
      cases e0; cases e1; cases e2; cases e3
      replace hx : d = _ := hx
      have hbd : Rows.uptoBulk d = 6 + Rows.uptoBulk w1.1 + s.size + Rows.uptoBulk y4.1 + Rows.uptoBulk y5.1 := by
        have hsl : s.data.toList.length = s.size := bytes_len s
        rw [hx, x0, x1, x3, hx2, x2]
        simp only [Rows.uptoBulk, Rows.uptoBulkAll, hsl]
        omega
      have hsh : ∃ ao l c, c3 = .slice ao l c := by
        rcases open_ints Try.underlying60 Try.underlying65 (by kernel_rfl) g1 with ⟨hcs, _⟩ | ⟨x, l, c, zs, hcs, _⟩
        · cases hcs; exact ⟨_, _, _, rfl⟩
        · cases hcs; exact ⟨_, _, _, rfl⟩
      obtain ⟨ao, l, c, rfl⟩ := hsh
      obtain ⟨f, s1, s2, -, s4⟩ := open_list (d := w1.1) (p := w1.2) ⟨m', g1⟩
      have p4 : 1 ≤ Rows.uptoBulk y4.1 := bulk_pos _
      have p5 : 1 ≤ Rows.uptoBulk y5.1 := bulk_pos _
      obtain ⟨I, q1, q2⟩ := open_row (N := N) (open_dat N) h4 (by omega)
      obtain ⟨R, q3, q4⟩ := open_row (N := N) (open_dat N) h5 (by omega)
      have hLl : ((List.range l).map f).length = l := by simp
      have hLg : ∀ i, i < l → ((List.range l).map f).getD i 0 = f i := fun i hi => by simp [List.getD_eq_getElem?_getD, hi]
      refine ⟨(z0, z1, bb, (List.range l).map f, s, I, R), ⟨_, _, _, rfl, ?_, ?_, ?_, q1, q3⟩, ?_⟩
      · simpa [Lit.wf, IntKind.min, IntKind.max, IntKind.signed, IntKind.bits] using r1
      · rw [hLl]
        obtain ⟨ao', cap', e, t1, t2, t0, t3⟩ := s1
        refine ⟨ao', cap', e, t1, t2, t0, ?_⟩
        rcases t3 with t3 | ⟨b', off', e', t3⟩
        · exact .inl t3
        · exact .inr ⟨b', off', e', fun i hi => by rw [t3 i hi]; show _ = some (Value.int .u32 ((((List.range l).map f).getD i 0 : Nat) : Int)); rw [hLg i hi]⟩
      · intro i hi
        rw [hLl] at hi
        rw [hLg i hi]
        exact s2 i hi
      · simp only [bk]
        rw [hLl, hbd]
        omega

theorem open_data {H : Type} {enc : TypeId × Value → H} {W : World} {N : Nat} {ao : Option Addr} {len cap : Nat} {d : DataW H} {p : List MemPlace} (h : DataW.Trod enc Try.prog W 0 (fun _ => true) true 45 (.slice ao len cap) d p) (hN : Rows.uptoBulk d ≤ N) :
    ∃ I : List (Tr N), RowD W (DatC W N) (.slice ao len cap) I ∧ (I.map (bk N)).sum + 1 ≤ Rows.uptoBulk d := by
  obtain ⟨fuel, hf⟩ := h
  exact open_row (y := (d, p)) (open_dat N) hf (by show Rows.uptoBulk d ≤ N + 1; omega)

end Go.Proofs.Ytilcigjhogcjkaa
