/-
  What is proved here: how a script that came in is opened.
-/
import Derived.Test.YtcefeclgehijpaaFLift2
import Derived.Test.YtcefeclgehijpaaFOps
namespace Go.Proofs.Ytcefeclgehijpaa
open Go.ChangeShapes Go.WideShapes Go.ChangeAt Go.RowKit

theorem bulk_pos {H : Type} (d : DataW H) : 1 ≤ Rows.uptoBulk d := by
  cases d with
  | lit l => cases l <;> simp [Rows.uptoBulk]
  | _ => simp [Rows.uptoBulk]
theorem bulk_all {H : Type} (l : List (DataW H)) : l.length ≤ Rows.uptoBulkAll l := by
  induction l with
  | nil => simp
  | cons x l ih =>
    have := bulk_pos x
    simp only [List.length_cons, Rows.uptoBulkAll]
    omega
theorem bulk_append {H : Type} (a b : List (DataW H)) : Rows.uptoBulkAll (a ++ b) = Rows.uptoBulkAll a + Rows.uptoBulkAll b := by
  induction a with
  | nil => simp [Rows.uptoBulkAll]
  | cons x a ih =>
    simp only [List.cons_append, Rows.uptoBulkAll, ih]
    omega
theorem bulk_succ {H : Type} (D : Nat → DataW H) (i : Nat) : Rows.uptoBulkAll ((List.range (i + 1)).map D) = Rows.uptoBulkAll ((List.range i).map D) + Rows.uptoBulk (D i) := by
  rw [List.range_succ, List.map_append, bulk_append]
  simp [Rows.uptoBulkAll]
theorem bulk_mono {H : Type} (D : Nat → DataW H) {i : Nat} : ∀ {k : Nat}, i ≤ k → Rows.uptoBulkAll ((List.range i).map D) ≤ Rows.uptoBulkAll ((List.range k).map D)
  | 0, h => by
    obtain rfl : i = 0 := by omega
    exact Nat.le_refl _
  | k + 1, h => by
    by_cases e : i = k + 1
    · subst e
      exact Nat.le_refl _
    · have := bulk_mono D (i := i) (k := k) (by omega)
      rw [bulk_succ]
      omega

theorem cellsOpF : Try.prog.cellsOf 31 = 6 := by kernel_rfl
theorem cellsI3 : Try.prog.cellsOf 3 = 1 := by kernel_rfl
theorem cellsLI : Try.prog.cellsOf 27 = 1 := by kernel_rfl
theorem cellsLF : Try.prog.cellsOf 26 = 1 := by kernel_rfl

theorem feeds_bulk {H : Type} {enc : TypeId × Value → H} {W : World} {fuel : Nat} {c : Value} {d : DataW H} {p : List MemPlace} (hf : DataW.trod enc Try.prog W 0 (fun _ => true) true fuel 26 [c] = some (d, p)) :
    ∃ ao len cap, c = .slice ao len cap ∧ (ao = none → len = 0 ∧ cap = 0) ∧ len + 1 ≤ Rows.uptoBulk d := by
  rcases Go.Deep.open_slice Try.underlying26 hf with ⟨hcs, hx⟩ | ⟨a, len', cap', m, n, D, Pl, hcs, hb, hl, hm, hmm, hx, hel⟩
  · cases hcs
    exact ⟨none, 0, 0, rfl, fun _ => ⟨rfl, rfl⟩, bulk_pos _⟩
  · cases hcs
    obtain ⟨rfl, rfl⟩ := Prod.mk.inj hx
    refine ⟨some a, _, _, rfl, (fun e => by cases e), ?_⟩
    have h1 := bulk_all ((List.range len').map D)
    simp only [Rows.uptoBulk]
    simp at h1
    omega
theorem ints_bulk {H : Type} {enc : TypeId × Value → H} {W : World} {fuel : Nat} {c : Value} {d : DataW H} {p : List MemPlace} (hf : DataW.trod enc Try.prog W 0 (fun _ => true) true fuel 27 [c] = some (d, p)) :
    ∃ ao len cap, c = .slice ao len cap ∧ (ao = none → len = 0 ∧ cap = 0) ∧ len + 1 ≤ Rows.uptoBulk d := by
  rcases Go.Deep.open_slice Try.underlying27 hf with ⟨hcs, hx⟩ | ⟨a, len', cap', m, n, D, Pl, hcs, hb, hl, hm, hmm, hx, hel⟩
  · cases hcs
    exact ⟨none, 0, 0, rfl, fun _ => ⟨rfl, rfl⟩, bulk_pos _⟩
  · cases hcs
    obtain ⟨rfl, rfl⟩ := Prod.mk.inj hx
    refine ⟨some a, _, _, rfl, (fun e => by cases e), ?_⟩
    have h1 := bulk_all ((List.range len').map D)
    simp only [Rows.uptoBulk]
    simp at h1
    omega

theorem trod_struct6 {P : Program} {H : Type} {enc : TypeId × Value → H} {w : World} {base : Nat} {spare : Nat → Bool} {held : Bool} {t : TypeId} {f0 f1 f2 f3 f4 f5 : Field} {fuel : Nat} {cs : List Value} {x : DataW H × List MemPlace} (ht : P.underlying t = some (.struct #[f0, f1, f2, f3, f4, f5])) (h : DataW.trod enc P w base spare held fuel t cs = some x) :
    ∃ y0 y1 y2 y3 y4 y5 n, x.1 = .agg [y0.1, y1.1, y2.1, y3.1, y4.1, y5.1] ∧ DataW.trod enc P w base spare held n f0.type ((cs.drop f0.offset).take (P.cellsOf f0.type)) = some y0 ∧
      DataW.trod enc P w base spare held n f1.type ((cs.drop f1.offset).take (P.cellsOf f1.type)) = some y1 ∧ DataW.trod enc P w base spare held n f2.type ((cs.drop f2.offset).take (P.cellsOf f2.type)) = some y2 ∧
      DataW.trod enc P w base spare held n f3.type ((cs.drop f3.offset).take (P.cellsOf f3.type)) = some y3 ∧ DataW.trod enc P w base spare held n f4.type ((cs.drop f4.offset).take (P.cellsOf f4.type)) = some y4 ∧
      DataW.trod enc P w base spare held n f5.type ((cs.drop f5.offset).take (P.cellsOf f5.type)) = some y5 := by
  obtain ⟨xs, n, _, rfl, hl, hlen, hf⟩ := DataW.trod_struct ht h
  match xs, hlen with
  | [y0, y1, y2, y3, y4, y5], _ => exact ⟨y0, y1, y2, y3, y4, y5, n, by simp, by simpa using hf 0 f0 rfl, by simpa using hf 1 f1 rfl, by simpa using hf 2 f2 rfl, by simpa using hf 3 f3 rfl, by simpa using hf 4 f4 rfl, by simpa using hf 5 f5 rfl⟩

set_option maxRecDepth 100000 in
theorem open_opF {H : Type} {enc : TypeId × Value → H} {W : World} {fuel : Nat} {cs : List Value} {d : DataW H} {p : List MemPlace} (hlen : cs.length = 6) (hf : DataW.trod enc Try.prog W 0 (fun _ => true) true fuel 31 cs = some (d, p)) :
    ∃ (z x c q : Int) (ao : Option Addr) (n cap : Nat) (gi : Nat → Int) (fo : Option Addr) (m cap' : Nat) (gf : Nat → Fd), cs = [.int .i64 z, .int .i64 x, .int .i64 c, .int .i64 q, .slice ao n cap, .slice fo m cap'] ∧ IRow W ao n gi ∧ FRow W fo m gf ∧ (ao = none → n = 0 ∧ cap = 0) ∧ (fo = none → m = 0 ∧ cap' = 0) ∧ n + m + 1 ≤ Rows.uptoBulk d := by
  obtain ⟨y0, y1, y2, y3, y4, y5, k, hx, h0, h1, h2, h3, h4, h5⟩ := trod_struct6 Try.underlying31 hf
  match cs, hlen with
  | [c0, c1, c2, c3, c4, c5], _ =>
    rw [cellsI3] at h0 h1 h2 h3
    rw [cellsLI] at h4
    rw [cellsLF] at h5
    replace h0 : DataW.trod enc Try.prog W 0 (fun _ => true) true k 3 [c0] = some y0 := h0
    replace h1 : DataW.trod enc Try.prog W 0 (fun _ => true) true k 3 [c1] = some y1 := h1
    replace h2 : DataW.trod enc Try.prog W 0 (fun _ => true) true k 3 [c2] = some y2 := h2
    replace h3 : DataW.trod enc Try.prog W 0 (fun _ => true) true k 3 [c3] = some y3 := h3
    replace h4 : DataW.trod enc Try.prog W 0 (fun _ => true) true k 27 [c4] = some y4 := h4
    replace h5 : DataW.trod enc Try.prog W 0 (fun _ => true) true k 26 [c5] = some y5 := h5
    obtain ⟨z0, e0, _, r0⟩ := DataW.trod_int Try.underlying3 h0
    obtain ⟨z1, e1, _, r1⟩ := DataW.trod_int Try.underlying3 h1
    obtain ⟨z2, e2, _, r2⟩ := DataW.trod_int Try.underlying3 h2
    obtain ⟨z3, e3, _, r3⟩ := DataW.trod_int Try.underlying3 h3
    cases e0; cases e1; cases e2; cases e3
    replace hx : d = _ := hx
    subst hx
    obtain ⟨ao, n, cap, rfl, ha, hb⟩ := ints_bulk (d := y4.1) (p := y4.2) h4
    obtain ⟨fo, m, cap', rfl, ha', hb'⟩ := feeds_bulk (d := y5.1) (p := y5.2) h5
    obtain ⟨gi, s1, -, -⟩ := open_nums (d := y4.1) (p := y4.2) ⟨k, h4⟩
    obtain ⟨gf, s2, -, -, -⟩ := open_feeds (d := y5.1) (p := y5.2) ⟨k, h5⟩
    refine ⟨z0, z1, z2, z3, ao, n, cap, gi, fo, m, cap', gf, rfl, s1, s2, ha, ha', ?_⟩
    simp only [Rows.uptoBulk, Rows.uptoBulkAll]
    omega

set_option maxRecDepth 100000 in
/-- A script that came in, opened. -/
theorem open_opsF {H : Type} {enc : TypeId × Value → H} {W : World} {mo : Option Addr} {k capm : Nat} {d : DataW H} {p : List MemPlace} (h : DataW.Trod enc Try.prog W 0 (fun _ => true) true 22 (.slice mo k capm) d p) :
    ∃ B : Nat → Nat, OpsF W mo k B ∧ B 0 = 0 ∧ (∀ i, i ≤ k → B i ≤ Rows.uptoBulk d) ∧ k ≤ Rows.uptoBulk d := by
  obtain ⟨fuel, hf⟩ := h
  rcases Go.Deep.open_slice Try.underlying22 hf with ⟨hcs, _⟩ | ⟨a, len, cap, m, n, D, Pl, hcs, hb, hl, hm, hmm, hx, hel⟩
  · simp [Value.cells] at hcs
    obtain ⟨rfl, rfl, rfl⟩ := hcs
    exact ⟨fun _ => 0, .inl rfl, rfl, fun _ _ => Nat.zero_le _, Nat.zero_le _⟩
  · simp [Value.cells] at hcs
    obtain ⟨rfl, rfl, rfl⟩ := hcs
    obtain ⟨rfl, rfl⟩ := Prod.mk.inj hx
    simp at hmm
    subst hmm
    rw [cellsOpF] at hel
    have hall : ∀ i, i < k → ∃ (z x c q : Int) (ao : Option Addr) (n cap : Nat) (gi : Nat → Int) (fo : Option Addr) (m cap' : Nat) (gf : Nat → Fd), IRow W ao n gi ∧ FRow W fo m gf ∧ (ao = none → n = 0 ∧ cap = 0) ∧ (fo = none → m = 0 ∧ cap' = 0) ∧ n + m + 1 ≤ Rows.uptoBulk (D i) ∧
        ∀ j, j < 6 → W.cell? ((a.add (i * 6)).add j) = ([.int .i64 z, .int .i64 x, .int .i64 c, .int .i64 q, .slice ao n cap, .slice fo m cap'] : List Value)[j]? := fun i hi => by
      obtain ⟨cs', h1, h2⟩ := hel i (by omega)
      obtain ⟨-, hlen, hc⟩ := World.cells?_some h1
      obtain ⟨z, x, c, q, ao, n, cap, gi, fo, m, cap', gf, rfl, s1, s2, s3, s4, s5⟩ := open_opF hlen h2
      exact ⟨z, x, c, q, ao, n, cap, gi, fo, m, cap', gf, s1, s2, s3, s4, s5, fun j hj => hc j hj⟩
    refine ⟨fun i => Rows.uptoBulkAll ((List.range i).map D), ?_, by simp [Rows.uptoBulkAll], fun i hi => ?_, ?_⟩
    · by_cases h0 : k = 0
      · exact .inl h0
      · obtain ⟨b, off, spot⟩ := a
        have hspot : spot = none := by
          obtain ⟨z, x, c, q, ao, n, cap, gi, fo, m, cap', gf, _, _, _, _, _, hc⟩ := hall 0 (by omega)
          have := hc 0 (by decide)
          simpa [Addr.add] using World.cell?_spot this
        subst hspot
        refine .inr ⟨b, off, rfl, fun i hi => ?_⟩
        obtain ⟨z, x, c, q, ao, n, cap, gi, fo, m, cap', gf, s1, s2, s3, s4, s5, hc⟩ := hall i hi
        refine ⟨z, x, c, q, ao, n, cap, gi, fo, m, cap', gf, ⟨?_, ?_, ?_, ?_, ?_, ?_, s1, s2, s3, s4⟩, ?_⟩
        · have := hc 0 (by decide); rw [Addr.add_lit, Addr.add_lit] at this; exact this
        · have := hc 1 (by decide); rw [Addr.add_lit, Addr.add_lit] at this; exact this
        · have := hc 2 (by decide); rw [Addr.add_lit, Addr.add_lit] at this; exact this
        · have := hc 3 (by decide); rw [Addr.add_lit, Addr.add_lit] at this; exact this
        · have := hc 4 (by decide); rw [Addr.add_lit, Addr.add_lit] at this; exact this
        · have := hc 5 (by decide); rw [Addr.add_lit, Addr.add_lit] at this; exact this
        · have h1 := bulk_succ D i
          dsimp only
          omega
    · have h1 := bulk_mono D hi
      simp only [Rows.uptoBulk]
      omega
    · have h1 := bulk_all ((List.range k).map D)
      simp only [Rows.uptoBulk]
      simp at h1
      omega

end Go.Proofs.Ytcefeclgehijpaa
