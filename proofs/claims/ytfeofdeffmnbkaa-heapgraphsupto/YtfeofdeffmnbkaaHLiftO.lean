/-
  What is proved here: how a script that came in is opened.
-/
import Derived.Test.YtfeofdeffmnbkaaHLift
import Derived.Test.YtfeofdeffmnbkaaHDoAll
import Derived.Deep.Slices
namespace Go.Proofs.Ytfeofdeffmnbkaa
open Go.ChangeShapes Go.WideShapes Go.ChangeAt Go.RowKit

theorem bulk_append {H : Type} (a b : List (DataW H)) : Rows.uptoBulkAll (a ++ b) = Rows.uptoBulkAll a + Rows.uptoBulkAll b := by
  induction a with
  | nil => simp [Rows.uptoBulkAll]
  | cons x a ih =>
    simp only [List.cons_append, Rows.uptoBulkAll, ih]
    omega
theorem bulk_get {H : Type} (D : Nat → DataW H) (k i : Nat) (hi : i < k) : Rows.uptoBulk (D i) ≤ Rows.uptoBulkAll ((List.range k).map D) := by
  induction k with
  | zero => omega
  | succ k ih =>
    rw [List.range_succ, List.map_append, bulk_append]
    simp only [List.map_cons, List.map_nil, Rows.uptoBulkAll]
    by_cases e : i = k
    · subst e; omega
    · have := ih (by omega); omega
theorem bulk_count {H : Type} (D : Nat → DataW H) (k : Nat) (h : ∀ i, i < k → 1 ≤ Rows.uptoBulk (D i)) : k ≤ Rows.uptoBulkAll ((List.range k).map D) := by
  induction k with
  | zero => omega
  | succ k ih =>
    rw [List.range_succ, List.map_append, bulk_append]
    simp only [List.map_cons, List.map_nil, Rows.uptoBulkAll]
    have := ih (fun i hi => h i (by omega))
    have := h k (by omega)
    omega

theorem cellsI3 : Try.prog.cellsOf 3 = 1 := by kernel_rfl
theorem cellsB4 : Try.prog.cellsOf 4 = 1 := by kernel_rfl
theorem cellsWd : Try.prog.cellsOf 33 = 1 := by kernel_rfl
theorem cellsLI : Try.prog.cellsOf 34 = 1 := by kernel_rfl
theorem cellsOp : Try.prog.cellsOf 36 = 7 := by kernel_rfl
theorem rng_wf {z : Int} (h : (Lit.int .i64 z).wf = true) : Rng z := by
  simp [Lit.wf, IntKind.min, IntKind.max, IntKind.signed, IntKind.bits] at h
  unfold Rng
  omega

theorem trod_struct7 {P : Program} {H : Type} {enc : TypeId × Value → H} {w : World} {base : Nat} {spare : Nat → Bool} {held : Bool} {t : TypeId} {f0 f1 f2 f3 f4 f5 f6 : Field} {fuel : Nat} {cs : List Value} {x : DataW H × List MemPlace} (ht : P.underlying t = some (.struct #[f0, f1, f2, f3, f4, f5, f6])) (h : DataW.trod enc P w base spare held fuel t cs = some x) :
    ∃ y0 y1 y2 y3 y4 y5 y6 n, x.1 = .agg [y0.1, y1.1, y2.1, y3.1, y4.1, y5.1, y6.1] ∧ DataW.trod enc P w base spare held n f0.type ((cs.drop f0.offset).take (P.cellsOf f0.type)) = some y0 ∧
      DataW.trod enc P w base spare held n f1.type ((cs.drop f1.offset).take (P.cellsOf f1.type)) = some y1 ∧ DataW.trod enc P w base spare held n f2.type ((cs.drop f2.offset).take (P.cellsOf f2.type)) = some y2 ∧
      DataW.trod enc P w base spare held n f3.type ((cs.drop f3.offset).take (P.cellsOf f3.type)) = some y3 ∧ DataW.trod enc P w base spare held n f4.type ((cs.drop f4.offset).take (P.cellsOf f4.type)) = some y4 ∧
      DataW.trod enc P w base spare held n f5.type ((cs.drop f5.offset).take (P.cellsOf f5.type)) = some y5 ∧ DataW.trod enc P w base spare held n f6.type ((cs.drop f6.offset).take (P.cellsOf f6.type)) = some y6 := by
  obtain ⟨xs, n, _, rfl, hl, hlen, hf⟩ := DataW.trod_struct ht h
  match xs, hlen with
  | [y0, y1, y2, y3, y4, y5, y6], _ => exact ⟨y0, y1, y2, y3, y4, y5, y6, n, by simp, by simpa using hf 0 f0 rfl, by simpa using hf 1 f1 rfl, by simpa using hf 2 f2 rfl, by simpa using hf 3 f3 rfl, by simpa using hf 4 f4 rfl, by simpa using hf 5 f5 rfl, by simpa using hf 6 f6 rfl⟩

set_option maxRecDepth 100000 in
theorem open_op {H : Type} {enc : TypeId × Value → H} {W : World} {fuel : Nat} {cs : List Value} {d : DataW H} {p : List MemPlace} (hlen : cs.length = 7) (hf : DataW.trod enc Try.prog W 0 (fun _ => true) true fuel 36 cs = some (d, p)) :
    ∃ (k a b c : Int) (y : Nat) (bo : Bool) (vR : Value) (l : Nat) (g : Nat → Int), cs = [.int .i64 k, .int .i64 a, .int .i64 b, .int .i64 c, .int .u64 (y : Int), .bool bo, vR] ∧ OpV W k a b c y vR l g ∧ l + 1 ≤ Rows.uptoBulk d := by
  obtain ⟨y0, y1, y2, y3, y4, y5, y6, m, hx, h0, h1, h2, h3, h4, h5, h6⟩ := trod_struct7 Try.underlying36 hf
  match cs, hlen with
  | [c0, c1, c2, c3, c4, c5, c6], _ =>
    rw [cellsI3] at h0 h1 h2 h3
    rw [cellsWd] at h4
    rw [cellsB4] at h5
    rw [cellsLI] at h6
    replace h0 : DataW.trod enc Try.prog W 0 (fun _ => true) true m 3 [c0] = some y0 := h0
    replace h1 : DataW.trod enc Try.prog W 0 (fun _ => true) true m 3 [c1] = some y1 := h1
    replace h2 : DataW.trod enc Try.prog W 0 (fun _ => true) true m 3 [c2] = some y2 := h2
    replace h3 : DataW.trod enc Try.prog W 0 (fun _ => true) true m 3 [c3] = some y3 := h3
    replace h4 : DataW.trod enc Try.prog W 0 (fun _ => true) true m 33 [c4] = some y4 := h4
    replace h5 : DataW.trod enc Try.prog W 0 (fun _ => true) true m 4 [c5] = some y5 := h5
    replace h6 : DataW.trod enc Try.prog W 0 (fun _ => true) true m 34 [c6] = some y6 := h6
    obtain ⟨z0, e0, _, r0⟩ := DataW.trod_int Try.underlying3 h0
    obtain ⟨z1, e1, _, r1⟩ := DataW.trod_int Try.underlying3 h1
    obtain ⟨z2, e2, _, r2⟩ := DataW.trod_int Try.underlying3 h2
    obtain ⟨z3, e3, _, r3⟩ := DataW.trod_int Try.underlying3 h3
    obtain ⟨z4, e4, _, r4⟩ := DataW.trod_int Try.underlying33 h4
    obtain ⟨b5, e5, _⟩ := DataW.trod_bool Try.underlying4 h5
    cases e0; cases e1; cases e2; cases e3; cases e4; cases e5
    replace hx : d = _ := hx
    subst hx
    have r4' : 0 ≤ z4 ∧ z4 ≤ 18446744073709551615 := by simpa [Lit.wf, IntKind.min, IntKind.max, IntKind.signed, IntKind.bits] using r4
    have hsh : ∃ ao l c, c6 = .slice ao l c := by
      rcases open_ints Try.underlying34 Try.underlying3 (by kernel_rfl) h6 with ⟨hcs, _⟩ | ⟨x, l, c, zs, hcs, _⟩
      · cases hcs; exact ⟨_, _, _, rfl⟩
      · cases hcs; exact ⟨_, _, _, rfl⟩
    obtain ⟨ao, l, c, rfl⟩ := hsh
    obtain ⟨g, s1, s2, _, s4⟩ := open_listI (d := y6.1) (p := y6.2) ⟨m, h6⟩
    refine ⟨z0, z1, z2, z3, z4.toNat, b5, _, l, g, by rw [Int.toNat_of_nonneg r4'.1], ⟨rng_wf r0, rng_wf r1, rng_wf r2, rng_wf r3, by omega, s1, s2⟩, ?_⟩
    simp only [Rows.uptoBulk, Rows.uptoBulkAll]
    omega

set_option maxRecDepth 100000 in
/-- A script that came in, opened. -/
theorem open_ops {H : Type} {enc : TypeId × Value → H} {W : World} {mo : Option Addr} {k capm : Nat} {d : DataW H} {p : List MemPlace} (h : DataW.Trod enc Try.prog W 0 (fun _ => true) true 22 (.slice mo k capm) d p) :
    OpsIn W mo k (Rows.uptoBulk d) ∧ k ≤ Rows.uptoBulk d ∧ k ≤ capm := by
  obtain ⟨fuel, hf⟩ := h
  rcases Go.Deep.open_slice Try.underlying22 hf with ⟨hcs, _⟩ | ⟨a, len, cap, m, n, D, Pl, hcs, hb, hl, hm, hmm, hx, hel⟩
  · simp [Value.cells] at hcs
    obtain ⟨rfl, rfl, rfl⟩ := hcs
    exact ⟨.inl rfl, by omega, by omega⟩
  · simp [Value.cells] at hcs
    obtain ⟨rfl, rfl, rfl⟩ := hcs
    obtain ⟨rfl, rfl⟩ := Prod.mk.inj hx
    simp at hmm
    subst hmm
    rw [cellsOp] at hel
    have hall : ∀ i, i < k → (∃ (z0 z1 z2 z3 : Int) (y : Nat) (bo : Bool) (vR : Value) (l : Nat) (g : Nat → Int), OpV W z0 z1 z2 z3 y vR l g ∧ l + 1 ≤ Rows.uptoBulk (D i) ∧ ∀ j, j < 7 → W.cell? ((a.add (i * 7)).add j) = ([.int .i64 z0, .int .i64 z1, .int .i64 z2, .int .i64 z3, .int .u64 (y : Int), .bool bo, vR] : List Value)[j]?) := fun i hi => by
      obtain ⟨cs', h1, h2⟩ := hel i (by omega)
      obtain ⟨-, hlen, hc⟩ := World.cells?_some h1
      obtain ⟨z0, z1, z2, z3, y, bo, vR, l, g, rfl, h3, h4⟩ := open_op hlen h2
      exact ⟨z0, z1, z2, z3, y, bo, vR, l, g, h3, h4, fun j hj => hc j hj⟩
    have hone : ∀ i, i < k → 1 ≤ Rows.uptoBulk (D i) := fun i hi => by
      obtain ⟨z0, z1, z2, z3, y, bo, vR, l, g, _, h4, _⟩ := hall i hi
      omega
    refine ⟨?_, by have := bulk_count D k hone; simp only [Rows.uptoBulk]; omega, hl⟩
    by_cases h0 : k = 0
    · exact .inl h0
    · obtain ⟨b, off, spot⟩ := a
      have hspot : spot = none := by
        obtain ⟨z0, z1, z2, z3, y, bo, vR, l, g, _, _, hc⟩ := hall 0 (by omega)
        have := hc 0 (by decide)
        simpa [Addr.add] using World.cell?_spot this
      subst hspot
      refine .inr ⟨b, off, rfl, fun i hi => ?_⟩
      obtain ⟨z0, z1, z2, z3, y, bo, vR, l, g, h3, h4, hc⟩ := hall i hi
      have hbk := bulk_get D k i hi
      refine ⟨z0, z1, z2, z3, y, bo, vR, l, g, h3, by simp only [Rows.uptoBulk]; omega, ?_, ?_, ?_, ?_, ?_, ?_, ?_⟩
      · have := hc 0 (by decide); rw [Addr.add_lit, Addr.add_lit] at this; exact this
      · have := hc 1 (by decide); rw [Addr.add_lit, Addr.add_lit] at this; exact this
      · have := hc 2 (by decide); rw [Addr.add_lit, Addr.add_lit] at this; exact this
      · have := hc 3 (by decide); rw [Addr.add_lit, Addr.add_lit] at this; exact this
      · have := hc 4 (by decide); rw [Addr.add_lit, Addr.add_lit] at this; exact this
      · have := hc 5 (by decide); rw [Addr.add_lit, Addr.add_lit] at this; exact this
      · have := hc 6 (by decide); rw [Addr.add_lit, Addr.add_lit] at this; exact this

end Go.Proofs.Ytfeofdeffmnbkaa
