/-
  What is proved here: how protos that came in are opened, with all that is in them (package pack).
-/
import Derived.Test.YtilcigjhogcjkaaJD
import Derived.Test.YtilcigjhogcjkaaPKCopyC
namespace Go.Proofs.Ytilcigjhogcjkaa
open Go.ChangeShapes Go.WideShapes Go.ChangeAt Go.RowKit

theorem trod_struct3 {P : Program} {H : Type} {enc : TypeId × Value → H} {w : World} {base : Nat} {spare : Nat → Bool} {held : Bool} {t : TypeId} {f0 f1 f2 : Field} {fuel : Nat} {cs : List Value} {x : DataW H × List MemPlace} (ht : P.underlying t = some (.struct #[f0, f1, f2])) (h : DataW.trod enc P w base spare held fuel t cs = some x) :
    ∃ y0 y1 y2 n, DataW.trod enc P w base spare held n f0.type ((cs.drop f0.offset).take (P.cellsOf f0.type)) = some y0 ∧
      DataW.trod enc P w base spare held n f1.type ((cs.drop f1.offset).take (P.cellsOf f1.type)) = some y1 ∧ DataW.trod enc P w base spare held n f2.type ((cs.drop f2.offset).take (P.cellsOf f2.type)) = some y2 := by
  obtain ⟨xs, n, _, rfl, hl, hlen, hf⟩ := DataW.trod_struct ht h
  match xs, hlen with
  | [y0, y1, y2], _ => exact ⟨y0, y1, y2, n, by simpa using hf 0 f0 rfl, by simpa using hf 1 f1 rfl, by simpa using hf 2 f2 rfl⟩
theorem trod_struct7 {P : Program} {H : Type} {enc : TypeId × Value → H} {w : World} {base : Nat} {spare : Nat → Bool} {held : Bool} {t : TypeId} {f0 f1 f2 f3 f4 f5 f6 : Field} {fuel : Nat} {cs : List Value} {x : DataW H × List MemPlace} (ht : P.underlying t = some (.struct #[f0, f1, f2, f3, f4, f5, f6])) (h : DataW.trod enc P w base spare held fuel t cs = some x) :
    ∃ y0 y1 y2 y3 y4 y5 y6 n, x.1 = .agg [y0.1, y1.1, y2.1, y3.1, y4.1, y5.1, y6.1] ∧ DataW.trod enc P w base spare held n f0.type ((cs.drop f0.offset).take (P.cellsOf f0.type)) = some y0 ∧
      DataW.trod enc P w base spare held n f1.type ((cs.drop f1.offset).take (P.cellsOf f1.type)) = some y1 ∧ DataW.trod enc P w base spare held n f2.type ((cs.drop f2.offset).take (P.cellsOf f2.type)) = some y2 ∧
      DataW.trod enc P w base spare held n f3.type ((cs.drop f3.offset).take (P.cellsOf f3.type)) = some y3 ∧ DataW.trod enc P w base spare held n f4.type ((cs.drop f4.offset).take (P.cellsOf f4.type)) = some y4 ∧
      DataW.trod enc P w base spare held n f5.type ((cs.drop f5.offset).take (P.cellsOf f5.type)) = some y5 ∧ DataW.trod enc P w base spare held n f6.type ((cs.drop f6.offset).take (P.cellsOf f6.type)) = some y6 := by
  obtain ⟨xs, n, _, rfl, hl, hlen, hf⟩ := DataW.trod_struct ht h
  match xs, hlen with
  | [y0, y1, y2, y3, y4, y5, y6], _ => exact ⟨y0, y1, y2, y3, y4, y5, y6, n, by simp, by simpa using hf 0 f0 rfl, by simpa using hf 1 f1 rfl, by simpa using hf 2 f2 rfl, by simpa using hf 3 f3 rfl, by simpa using hf 4 f4 rfl, by simpa using hf 5 f5 rfl, by simpa using hf 6 f6 rfl⟩
theorem cellsLI : Try.prog.cellsOf 44 = 1 := by kernel_rfl
theorem cellsLS : Try.prog.cellsOf 46 = 1 := by kernel_rfl
theorem cellsIn : Try.prog.cellsOf 50 = 3 := by kernel_rfl
theorem cellsPr : Try.prog.cellsOf 48 = 7 := by kernel_rfl
theorem bulk_len {H : Type} (D : Nat → DataW H) : ∀ k, k ≤ Rows.uptoBulkAll ((List.range k).map D)
  | 0 => Nat.zero_le _
  | k + 1 => by
    rw [List.range_succ, List.map_append, bulk_append]
    have h1 := bulk_len D k
    have h2 := bulk_pos (D k)
    simp only [List.map_cons, List.map_nil, Rows.uptoBulkAll]
    omega

def I64 (x : Int) : Prop := -9223372036854775808 ≤ x ∧ x ≤ 9223372036854775807
set_option maxRecDepth 100000 in
/-- An instruction that came in. -/
theorem open_ins3 {H : Type} {enc : TypeId × Value → H} {W : World} {fuel : Nat} {cs : List Value} {x : DataW H × List MemPlace} (hlen : cs.length = 3) (hf : DataW.trod enc Try.prog W 0 (fun _ => true) true fuel 50 cs = some x) :
    ∃ o a b : Int, cs = [.int .i64 o, .int .i64 a, .int .i64 b] ∧ I64 o ∧ I64 a ∧ I64 b := by
  obtain ⟨y0, y1, y2, m, h0, h1, h2⟩ := trod_struct3 Try.underlying50 hf
  match cs, hlen with
  | [c0, c1, c2], _ =>
    rw [cellsI3] at h0 h1 h2
    replace h0 : DataW.trod enc Try.prog W 0 (fun _ => true) true m 3 [c0] = some y0 := h0
    replace h1 : DataW.trod enc Try.prog W 0 (fun _ => true) true m 3 [c1] = some y1 := h1
    replace h2 : DataW.trod enc Try.prog W 0 (fun _ => true) true m 3 [c2] = some y2 := h2
    obtain ⟨z0, e0, x0, r0⟩ := DataW.trod_int Try.underlying3 h0
    obtain ⟨z1, e1, x1, r1⟩ := DataW.trod_int Try.underlying3 h1
    obtain ⟨z2, e2, x2, r2⟩ := DataW.trod_int Try.underlying3 h2
    cases e0; cases e1; cases e2
    refine ⟨z0, z1, z2, rfl, ?_, ?_, ?_⟩
    · simpa [I64, Lit.wf, IntKind.min, IntKind.max, IntKind.signed, IntKind.bits] using r0
    · simpa [I64, Lit.wf, IntKind.min, IntKind.max, IntKind.signed, IntKind.bits] using r1
    · simpa [I64, Lit.wf, IntKind.min, IntKind.max, IntKind.signed, IntKind.bits] using r2
set_option maxRecDepth 100000 in
/-- Instructions that came in. -/
theorem open_codeL {H : Type} {enc : TypeId × Value → H} {W : World} {fuel : Nat} {v : Value} {y : DataW H × List MemPlace} (hf : DataW.trod enc Try.prog W 0 (fun _ => true) true fuel 44 [v] = some y) :
    ∃ (co : Option Addr) (cc : Nat) (l : List (Int × Int × Int)), v = .slice co l.length cc ∧ (co = none → cc = 0) ∧ CodeL W co cc l ∧ l.length + 1 ≤ Rows.uptoBulk y.1 := by
  rcases Go.Deep.open_slice Try.underlying44 hf with ⟨hcs, hx⟩ | ⟨a, len, cap, m, n, D, Pl, hcs, hb, hl, hm, hmm, hx, hel⟩
  · simp at hcs
    subst hcs
    exact ⟨none, 0, [], rfl, fun _ => rfl, ⟨Nat.le_refl _, by decide, .inl rfl⟩, by rw [hx]; simp [Rows.uptoBulk]⟩
  · simp at hcs
    subst hcs
    subst hx
    simp at hmm
    subst hmm
    rw [cellsIn] at hel
    have hall : ∀ i, i < len → ∃ t : Int × Int × Int, W.cell? ((a.add (i * 3)).add 0) = some (.int .i64 t.1) ∧ W.cell? ((a.add (i * 3)).add 1) = some (.int .i64 t.2.1) ∧ W.cell? ((a.add (i * 3)).add 2) = some (.int .i64 t.2.2) := fun i hi => by
      obtain ⟨cs', h1, h2⟩ := hel i (by omega)
      obtain ⟨-, hlen, hc⟩ := World.cells?_some h1
      obtain ⟨o, x, b, rfl, -⟩ := open_ins3 hlen h2
      exact ⟨(o, x, b), by rw [hc 0 (by omega)]; rfl, by rw [hc 1 (by omega)]; rfl, by rw [hc 2 (by omega)]; rfl⟩
    obtain ⟨Y, hY⟩ := Go.Deep.choose_lt hall
    have hbl := bulk_len D len
    refine ⟨some a, m, (List.range len).map Y, by simp, (fun e => by cases e), ⟨by simpa using hl, by unfold maxLen at hm; omega, ?_⟩, by simp only [Rows.uptoBulk, List.length_map, List.length_range]; omega⟩
    by_cases h0 : len = 0
    · exact .inl (by simp [h0])
    · obtain ⟨b, off, spot⟩ := a
      have hspot : spot = none := by
        have h7 := (hY 0 (by omega)).1
        simpa [Addr.add] using World.cell?_spot h7
      subst hspot
      refine .inr ⟨b, off, rfl, fun j hj => ?_⟩
      have hj' : j < len := by simpa using hj
      obtain ⟨q0, q1, q2⟩ := hY j hj'
      rw [Addr.add_lit, Addr.add_lit] at q0 q1 q2
      simp only [List.getElem_map, List.getElem_range]
      exact ⟨q0, q1, q2⟩
set_option maxRecDepth 100000 in
/-- Names that came in. -/
theorem open_nameL {H : Type} {enc : TypeId × Value → H} {W : World} {fuel : Nat} {v : Value} {y : DataW H × List MemPlace} (hf : DataW.trod enc Try.prog W 0 (fun _ => true) true fuel 46 [v] = some y) :
    ∃ (na : Option Addr) (nc : Nat) (l : List ByteArray), v = .slice na l.length nc ∧ (na = none → nc = 0) ∧ NameL W na nc l ∧ (l.map fun s => s.size + 1).sum + 1 ≤ Rows.uptoBulk y.1 := by
  rcases Go.Deep.open_slice Try.underlying46 hf with ⟨hcs, hx⟩ | ⟨a, len, cap, m, n, D, Pl, hcs, hb, hl, hm, hmm, hx, hel⟩
  · simp at hcs
    subst hcs
    exact ⟨none, 0, [], rfl, fun _ => rfl, ⟨Nat.le_refl _, by decide, .inl rfl⟩, by rw [hx]; simp [Rows.uptoBulk]⟩
  · simp at hcs
    subst hcs
    subst hx
    simp at hmm
    subst hmm
    rw [cellsS] at hel
    have hall : ∀ i, i < len → ∃ s : ByteArray, W.cell? (a.add i) = some (.string s) ∧ s.size + 1 ≤ Rows.uptoBulk (D i) := fun i hi => by
      obtain ⟨cs', h1, h2⟩ := hel i (by omega)
      obtain ⟨-, hlen, hc⟩ := World.cells?_some h1
      match cs', hlen with
      | [c], _ =>
        obtain ⟨s, e3, x3, m3⟩ := DataW.trod_string Try.underlying9 h2
        cases e3
        refine ⟨s, by have := hc 0 (by omega); rw [Addr.add_zero', Nat.mul_one] at this; rw [this]; rfl, ?_⟩
        have x3' : D i = .lit (.string s.data.toList) := (Prod.mk.inj x3).1
        rw [x3']
        simp only [Rows.uptoBulk, bytes_len]
        omega
    obtain ⟨Y, hY⟩ := Go.Deep.choose_lt hall
    have hbs := bulk_sum D Y (fun s => s.size + 1) len (fun i hi => (hY i hi).2)
    refine ⟨some a, m, (List.range len).map Y, by simp, (fun e => by cases e), ⟨by simpa using hl, by unfold maxLen at hm; omega, ?_⟩, by simp only [Rows.uptoBulk]; omega⟩
    by_cases h0 : len = 0
    · exact .inl (by simp [h0])
    · obtain ⟨b, off, spot⟩ := a
      have hspot : spot = none := by
        have h7 := (hY 0 (by omega)).1
        simpa [Addr.add] using World.cell?_spot h7
      subst hspot
      refine .inr ⟨b, off, rfl, fun j hj => ?_⟩
      have hj' : j < len := by simpa using hj
      have q0 := (hY j hj').1
      rw [Addr.add_lit] at q0
      simp only [List.getElem_map, List.getElem_range]
      exact q0

/-- How much there is of a proto. -/
def pbk {N : Nat} (p : PC N) : Nat := p.nm.size + p.code.length + (p.ks.map (bk N)).sum + (p.ns.map fun s => s.size + 1).sum + 7
set_option maxRecDepth 100000 in
/-- A proto that came in. -/
theorem open_protoP {H : Type} {enc : TypeId × Value → H} {W : World} {N : Nat} {fuel : Nat} {cs : List Value} {x : DataW H × List MemPlace} (hlen : cs.length = 7) (hf : DataW.trod enc Try.prog W 0 (fun _ => true) true fuel 48 cs = some x) (hN : Rows.uptoBulk x.1 ≤ N) :
    ∃ p : PC N, PCellN W p cs ∧ pbk p ≤ Rows.uptoBulk x.1 := by
  obtain ⟨y0, y1, y2, y3, y4, y5, y6, m, hx, h0, h1, h2, h3, h4, h5, h6⟩ := trod_struct7 Try.underlying48 hf
  match cs, hlen with
  | [c0, c1, c2, c3, c4, c5, c6], _ =>
    rw [cellsS] at h0
    rw [cellsI3] at h1 h2
    rw [cellsB] at h3
    rw [cellsLI] at h4
    rw [cellsLD] at h5
    rw [cellsLS] at h6
    replace h0 : DataW.trod enc Try.prog W 0 (fun _ => true) true m 9 [c0] = some y0 := h0
    replace h1 : DataW.trod enc Try.prog W 0 (fun _ => true) true m 3 [c1] = some y1 := h1
    replace h2 : DataW.trod enc Try.prog W 0 (fun _ => true) true m 3 [c2] = some y2 := h2
    replace h3 : DataW.trod enc Try.prog W 0 (fun _ => true) true m 4 [c3] = some y3 := h3
    replace h4 : DataW.trod enc Try.prog W 0 (fun _ => true) true m 44 [c4] = some y4 := h4
    replace h5 : DataW.trod enc Try.prog W 0 (fun _ => true) true m 45 [c5] = some y5 := h5
    replace h6 : DataW.trod enc Try.prog W 0 (fun _ => true) true m 46 [c6] = some y6 := h6
    obtain ⟨s, e0, x0, m0⟩ := DataW.trod_string Try.underlying9 h0
    obtain ⟨z1, e1, x1, r1⟩ := DataW.trod_int Try.underlying3 h1
    obtain ⟨z2, e2, x2, r2⟩ := DataW.trod_int Try.underlying3 h2
    obtain ⟨bb, e3, x3⟩ := DataW.trod_bool Try.underlying4 h3
    cases e0; cases e1; cases e2; cases e3
    have hbd : Rows.uptoBulk x.1 = 5 + s.size + Rows.uptoBulk y4.1 + Rows.uptoBulk y5.1 + Rows.uptoBulk y6.1 := by
      have hsl : s.data.toList.length = s.size := bytes_len s
      rw [hx, x0, x1, x2, x3]
      simp only [Rows.uptoBulk, Rows.uptoBulkAll, hsl]
      omega
    obtain ⟨co, cc, lc, rfl, k1, k2, k3⟩ := open_codeL h4
    obtain ⟨na, nc, ln, rfl, l1, l2, l3⟩ := open_nameL h6
    obtain ⟨I, q1, q2⟩ := open_row (N := N) (open_dat N) h5 (by omega)
    obtain ⟨ka, kc, e5⟩ := q1.shape
    subst e5
    refine ⟨⟨s, z1, z2, bb, lc, I, ln⟩, ⟨⟨co, cc, ka, kc, na, nc, rfl, k2, q1, l2⟩, ?_, ?_⟩, ?_⟩
    · intro n' cc' e
      have e : Value.slice co lc.length cc = .slice none n' cc' := by simpa using e
      injection e with ea eb ec
      rw [← ec]
      exact k1 ea
    · intro n' nc' e
      have e : Value.slice na ln.length nc = .slice none n' nc' := by simpa using e
      injection e with ea eb ec
      rw [← ec]
      exact l1 ea
    · show s.size + lc.length + (I.map (bk N)).sum + (ln.map fun s => s.size + 1).sum + 7 ≤ _
      rw [hbd]
      omega
set_option maxRecDepth 100000 in
/-- Protos that came in. -/
theorem open_protosP {H : Type} {enc : TypeId × Value → H} {W : World} {N : Nat} {ao : Option Addr} {len cap : Nat} {d : DataW H} {p : List MemPlace} (h : DataW.Trod enc Try.prog W 0 (fun _ => true) true 22 (.slice ao len cap) d p) (hN : Rows.uptoBulk d ≤ N) :
    ∃ ps : List (PC N), RowD W (PCellN W) (.slice ao len cap) ps ∧ (ps.map pbk).sum + 1 ≤ Rows.uptoBulk d := by
  obtain ⟨fuel, hf⟩ := h
  rcases Go.Deep.open_slice Try.underlying22 hf with ⟨hcs, hx⟩ | ⟨a, len', cap', m, n, D, Pl, hcs, hb, hl, hm, hmm, hx, hel⟩
  · cases hcs
    exact ⟨[], ⟨none, 0, rfl, Nat.le_refl _, by decide, .inl rfl⟩, by rw [(Prod.mk.inj hx).1]; simp [Rows.uptoBulk]⟩
  · cases hcs
    obtain ⟨rfl, -⟩ := Prod.mk.inj hx
    simp at hmm
    subst hmm
    rw [cellsPr] at hel
    have hall : ∀ i, i < len → ∃ t : PC N, (∃ cs, cs.length = 7 ∧ (∀ j, j < 7 → W.cell? ((a.add (i * 7)).add j) = cs[j]?) ∧ PCellN W t cs) ∧ pbk t ≤ Rows.uptoBulk (D i) := fun i hi => by
      obtain ⟨cs', h1, h2⟩ := hel i (by omega)
      obtain ⟨-, hlen, hc⟩ := World.cells?_some h1
      have hbi := bulk_get D len i hi
      obtain ⟨t, h3, h4⟩ := open_protoP (N := N) hlen h2 (by
        simp only [Rows.uptoBulk] at hN
        show Rows.uptoBulk (D i) ≤ N
        omega)
      exact ⟨t, ⟨cs', hlen, fun j hj => by rw [hc j (by omega)], h3⟩, h4⟩
    haveI : Inhabited (PC N) := ⟨⟨⟨#[]⟩, 0, 0, false, [], [], []⟩⟩
    obtain ⟨Y, hY⟩ := Go.Deep.choose_lt hall
    refine ⟨(List.range len).map Y, ⟨some a, m, by simp, by simpa using hl, by unfold maxLen at hm; omega, ?_⟩, ?_⟩
    · by_cases h0 : len = 0
      · exact .inl (by simp [h0])
      · obtain ⟨b, off, spot⟩ := a
        obtain ⟨cs0, hl0, hc0, -⟩ := (hY 0 (by omega)).1
        have hspot : spot = none := by
          have h7 := hc0 0 (by decide)
          have : cs0[0]? = some (cs0[0]'(by omega)) := List.getElem?_eq_getElem (by omega)
          rw [this] at h7
          simpa [Addr.add] using World.cell?_spot h7
        subst hspot
        refine .inr ⟨b, off, rfl, fun i hi => ?_⟩
        have hi' : i < len := by simpa using hi
        obtain ⟨cs, hl1, hc1, hd1⟩ := (hY i hi').1
        refine ⟨cs, hl1, fun j hj => ?_, by simpa using hd1⟩
        have := hc1 j hj
        rw [Addr.add_lit, Addr.add_lit] at this
        exact this
    · have := bulk_sum D Y pbk len (fun i hi => (hY i hi).2)
      simp only [Rows.uptoBulk]
      omega

end Go.Proofs.Ytilcigjhogcjkaa
