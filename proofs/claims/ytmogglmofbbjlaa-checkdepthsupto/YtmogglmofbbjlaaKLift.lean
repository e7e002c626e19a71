/-
  What is proved here: how protos that came in are opened.
-/
import Derived.Test.YtmogglmofbbjlaaJD
import Derived.Test.YtmogglmofbbjlaaKCopyB
namespace Go.Proofs.Ytmogglmofbbjlaa
open Go.ChangeShapes Go.WideShapes Go.ChangeAt Go.RowKit

theorem trod_struct3 {P : Program} {H : Type} {enc : TypeId × Value → H} {w : World} {base : Nat} {spare : Nat → Bool} {held : Bool} {t : TypeId} {f0 f1 f2 : Field} {fuel : Nat} {cs : List Value} {x : DataW H × List MemPlace} (ht : P.underlying t = some (.struct #[f0, f1, f2])) (h : DataW.trod enc P w base spare held fuel t cs = some x) :
    ∃ y0 y1 y2 n, DataW.trod enc P w base spare held n f0.type ((cs.drop f0.offset).take (P.cellsOf f0.type)) = some y0 ∧
      DataW.trod enc P w base spare held n f1.type ((cs.drop f1.offset).take (P.cellsOf f1.type)) = some y1 ∧ DataW.trod enc P w base spare held n f2.type ((cs.drop f2.offset).take (P.cellsOf f2.type)) = some y2 := by
  obtain ⟨xs, n, _, rfl, hl, hlen, hf⟩ := DataW.trod_struct ht h
  match xs, hlen with
  | [y0, y1, y2], _ => exact ⟨y0, y1, y2, n, by simpa using hf 0 f0 rfl, by simpa using hf 1 f1 rfl, by simpa using hf 2 f2 rfl⟩
theorem trod_struct7 {P : Program} {H : Type} {enc : TypeId × Value → H} {w : World} {base : Nat} {spare : Nat → Bool} {held : Bool} {t : TypeId} {f0 f1 f2 f3 f4 f5 f6 : Field} {fuel : Nat} {cs : List Value} {x : DataW H × List MemPlace} (ht : P.underlying t = some (.struct #[f0, f1, f2, f3, f4, f5, f6])) (h : DataW.trod enc P w base spare held fuel t cs = some x) :
    ∃ y0 y1 y2 y3 y4 y5 y6 n, x.1 = .agg [y0.1, y1.1, y2.1, y3.1, y4.1, y5.1, y6.1] ∧ DataW.trod enc P w base spare held n f0.type ((cs.drop f0.offset).take (P.cellsOf f0.type)) = some y0 ∧
      DataW.trod enc P w base spare held n f1.type ((cs.drop f1.offset).take (P.cellsOf f1.type)) = some y1 ∧ DataW.trod enc P w base spare held n f2.type ((cs.drop f2.offset).take (P.cellsOf f2.type)) = some y2 ∧
      DataW.trod enc P w base spare held n f3.type ((cs.drop f3.offset).take (P.cellsOf f3.type)) = some y3 ∧ DataW.trod enc P w base spare held n f4.type ((cs.drop f4.offset).take (P.cellsOf f4.type)) = some y4 ∧
      DataW.trod enc P w base spare held n f5.type ((cs.drop f5.offset).take (P.cellsOf f5.type)) = some y5 ∧ DataW.trod enc P w base spare held n f6.type ((cs.drop f6.offset).take (P.cellsOf f6.type)) = some y6 := by
  obtain ⟨xs, n, _, rfl, hl, hlen, hf⟩ := DataW.trod_struct ht h
  match xs, hlen with
  | [y0, y1, y2, y3, y4, y5, y6], _ => exact ⟨y0, y1, y2, y3, y4, y5, y6, n, by simp, by simpa using hf 0 f0 rfl, by simpa using hf 1 f1 rfl, by simpa using hf 2 f2 rfl, by simpa using hf 3 f3 rfl, by simpa using hf 4 f4 rfl, by simpa using hf 5 f5 rfl, by simpa using hf 6 f6 rfl⟩
theorem cellsLI : Try.prog.cellsOf 42 = 1 := by kernel_rfl
theorem cellsLS : Try.prog.cellsOf 43 = 1 := by kernel_rfl
theorem cellsIn : Try.prog.cellsOf 47 = 3 := by kernel_rfl
theorem cellsPr : Try.prog.cellsOf 45 = 7 := by kernel_rfl
theorem bulk_len {H : Type} (D : Nat → DataW H) : ∀ k, k ≤ Rows.uptoBulkAll ((List.range k).map D)
  | 0 => Nat.zero_le _
  | k + 1 => by
    rw [List.range_succ, List.map_append, bulk_append]
    have h1 := bulk_len D k
    have h2 := bulk_pos (D k)
    simp only [List.map_cons, List.map_nil, Rows.uptoBulkAll]
    omega

def I64 (x : Int) : Prop := -9223372036854775808 ≤ x ∧ x ≤ 9223372036854775807
set_option maxRecDepth 100000 in
/-- An instruction that came in. -/
theorem open_ins3 {H : Type} {enc : TypeId × Value → H} {W : World} {fuel : Nat} {cs : List Value} {x : DataW H × List MemPlace} (hlen : cs.length = 3) (hf : DataW.trod enc Try.prog W 0 (fun _ => true) true fuel 47 cs = some x) :
    ∃ o a b : Int, cs = [.int .i64 o, .int .i64 a, .int .i64 b] ∧ I64 o ∧ I64 a ∧ I64 b := by
  obtain ⟨y0, y1, y2, m, h0, h1, h2⟩ := trod_struct3 Try.underlying47 hf
  match cs, hlen with
  | [c0, c1, c2], _ =>
    rw [cellsI3] at h0 h1 h2
    replace h0 : DataW.trod enc Try.prog W 0 (fun _ => true) true m 3 [c0] = some y0 := h0
    replace h1 : DataW.trod enc Try.prog W 0 (fun _ => true) true m 3 [c1] = some y1 := h1
    replace h2 : DataW.trod enc Try.prog W 0 (fun _ => true) true m 3 [c2] = some y2 := h2
    obtain ⟨z0, e0, x0, r0⟩ := DataW.trod_int Try.underlying3 h0
    obtain ⟨z1, e1, x1, r1⟩ := DataW.trod_int Try.underlying3 h1
    obtain ⟨z2, e2, x2, r2⟩ := DataW.trod_int Try.underlying3 h2
    cases e0; cases e1; cases e2
    refine ⟨z0, z1, z2, rfl, ?_, ?_, ?_⟩
    · simpa [I64, Lit.wf, IntKind.min, IntKind.max, IntKind.signed, IntKind.bits] using r0
    · simpa [I64, Lit.wf, IntKind.min, IntKind.max, IntKind.signed, IntKind.bits] using r1
    · simpa [I64, Lit.wf, IntKind.min, IntKind.max, IntKind.signed, IntKind.bits] using r2
set_option maxRecDepth 100000 in
/-- Instructions that came in. -/
theorem open_code {H : Type} {enc : TypeId × Value → H} {W : World} {fuel : Nat} {v : Value} {y : DataW H × List MemPlace} (hf : DataW.trod enc Try.prog W 0 (fun _ => true) true fuel 42 [v] = some y) :
    ∃ (co : Option Addr) (n cc : Nat) (op a b : Nat → Int), v = .slice co n cc ∧ (co = none → n = 0 ∧ cc = 0) ∧ n ≤ cc ∧ cc ≤ 9223372036854775807 ∧ n + 1 ≤ Rows.uptoBulk y.1 ∧ (∀ j, j < n → I64 (op j) ∧ I64 (a j) ∧ I64 (b j)) ∧
      (n = 0 ∨ ∃ g off, co = some ⟨g, off, none⟩ ∧ ∀ j, j < n → W.cell? ⟨g, off + j * 3, none⟩ = some (.int .i64 (op j)) ∧ W.cell? ⟨g, off + j * 3 + 1, none⟩ = some (.int .i64 (a j)) ∧ W.cell? ⟨g, off + j * 3 + 2, none⟩ = some (.int .i64 (b j))) := by
  rcases Go.Deep.open_slice Try.underlying42 hf with ⟨hcs, hx⟩ | ⟨a, len, cap, m, n, D, Pl, hcs, hb, hl, hm, hmm, hx, hel⟩
  · simp at hcs
    subst hcs
    exact ⟨none, 0, 0, fun _ => 0, fun _ => 0, fun _ => 0, rfl, fun _ => ⟨rfl, rfl⟩, Nat.le_refl _, by omega, by rw [hx]; simp [Rows.uptoBulk], fun j hj => by omega, .inl rfl⟩
  · simp at hcs
    subst hcs
    subst hx
    simp at hmm
    subst hmm
    rw [cellsIn] at hel
    have hall : ∀ i, i < len → ∃ t : Int × Int × Int, W.cell? ((a.add (i * 3)).add 0) = some (.int .i64 t.1) ∧ W.cell? ((a.add (i * 3)).add 1) = some (.int .i64 t.2.1) ∧ W.cell? ((a.add (i * 3)).add 2) = some (.int .i64 t.2.2) ∧ I64 t.1 ∧ I64 t.2.1 ∧ I64 t.2.2 := fun i hi => by
      obtain ⟨cs', h1, h2⟩ := hel i (by omega)
      obtain ⟨-, hlen, hc⟩ := World.cells?_some h1
      obtain ⟨o, x, b, rfl, q1, q2, q3⟩ := open_ins3 hlen h2
      exact ⟨(o, x, b), by rw [hc 0 (by omega)]; rfl, by rw [hc 1 (by omega)]; rfl, by rw [hc 2 (by omega)]; rfl, q1, q2, q3⟩
    obtain ⟨Y, hY⟩ := Go.Deep.choose_lt hall
    have hbl := bulk_len D len
    refine ⟨some a, len, m, fun i => (Y i).1, fun i => (Y i).2.1, fun i => (Y i).2.2, rfl, (fun e => by cases e), hl, by unfold maxLen at hm; omega, by simp only [Rows.uptoBulk]; omega, fun j hj => (hY j hj).2.2.2, ?_⟩
    by_cases h0 : len = 0
    · exact .inl h0
    · obtain ⟨b, off, spot⟩ := a
      have hspot : spot = none := by
        have h7 := (hY 0 (by omega)).1
        simpa [Addr.add] using World.cell?_spot h7
      subst hspot
      refine .inr ⟨b, off, rfl, fun j hj => ?_⟩
      obtain ⟨q0, q1, q2, -⟩ := hY j hj
      rw [Addr.add_lit, Addr.add_lit] at q0 q1 q2
      exact ⟨q0, q1, q2⟩
set_option maxRecDepth 100000 in
/-- Names that came in. -/
theorem open_names {H : Type} {enc : TypeId × Value → H} {W : World} {fuel : Nat} {v : Value} {y : DataW H × List MemPlace} (hf : DataW.trod enc Try.prog W 0 (fun _ => true) true fuel 43 [v] = some y) :
    ∃ (na : Option Addr) (n nc : Nat) (L : List Value), v = .slice na n nc ∧ (na = none → n = 0 ∧ nc = 0) ∧ n + 1 ≤ Rows.uptoBulk y.1 ∧ L.length = n ∧ (∀ u ∈ L, u.oneCell' = true) ∧ (∀ ad, na = some ad → ∀ j u, L[j]? = some u → W.cell? (ad.add j) = some u) := by
  rcases Go.Deep.open_slice Try.underlying43 hf with ⟨hcs, hx⟩ | ⟨a, len, cap, m, n, D, Pl, hcs, hb, hl, hm, hmm, hx, hel⟩
  · simp at hcs
    subst hcs
    exact ⟨none, 0, 0, [], rfl, fun _ => ⟨rfl, rfl⟩, by rw [hx]; simp [Rows.uptoBulk], rfl, (fun u hu => by cases hu), (fun ad e => by cases e)⟩
  · simp at hcs
    subst hcs
    subst hx
    simp at hmm
    subst hmm
    rw [cellsS] at hel
    have hall : ∀ i, i < len → ∃ s : ByteArray, W.cell? (a.add i) = some (.string s) := fun i hi => by
      obtain ⟨cs', h1, h2⟩ := hel i (by omega)
      obtain ⟨-, hlen, hc⟩ := World.cells?_some h1
      match cs', hlen with
      | [c], _ =>
        obtain ⟨s, e3, x3, m3⟩ := DataW.trod_string Try.underlying9 h2
        cases e3
        exact ⟨s, by have := hc 0 (by omega); rw [Addr.add_zero', Nat.mul_one] at this; rw [this]; rfl⟩
    obtain ⟨Y, hY⟩ := Go.Deep.choose_lt hall
    have hbl := bulk_len D len
    refine ⟨some a, len, m, (List.range len).map (fun i => .string (Y i)), rfl, (fun e => by cases e), by simp only [Rows.uptoBulk]; omega, by simp, fun u hu => ?_, fun ad e j u hj => ?_⟩
    · simp at hu
      obtain ⟨x, -, rfl⟩ := hu
      rfl
    · cases e
      have hj' : j < len := by
        have := (List.getElem?_eq_some_iff.1 hj).1
        simpa using this
      rw [hY j hj']
      simpa [hj'] using hj

set_option maxRecDepth 100000 in
/-- A proto that came in. -/
theorem open_proto {H : Type} {enc : TypeId × Value → H} {W : World} {N : Nat} (hN10 : N ≤ 10000000) {fuel : Nat} {cs : List Value} {x : DataW H × List MemPlace} (hlen : cs.length = 7) (hf : DataW.trod enc Try.prog W 0 (fun _ => true) true fuel 45 cs = some x) (hN : Rows.uptoBulk x.1 ≤ N) :
    ∃ t : (PR × Hd) × (List (Tr N) × List Value), cs = prL t.1.1 t.1.2 ∧ CodeAt W t.1.2.co t.1.1 ∧ PB t.1.1 t.1.2 ∧ PIn W N t.1.1 t.1.2 t.2.1 t.2.2 := by
  obtain ⟨y0, y1, y2, y3, y4, y5, y6, m, hx, h0, h1, h2, h3, h4, h5, h6⟩ := trod_struct7 Try.underlying45 hf
  match cs, hlen with
  | [c0, c1, c2, c3, c4, c5, c6], _ =>
    rw [cellsS] at h0
    rw [cellsI3] at h1 h2
    rw [cellsB] at h3
    rw [cellsLI] at h4
    rw [cellsLD] at h5
    rw [cellsLS] at h6
    replace h0 : DataW.trod enc Try.prog W 0 (fun _ => true) true m 9 [c0] = some y0 := h0
    replace h1 : DataW.trod enc Try.prog W 0 (fun _ => true) true m 3 [c1] = some y1 := h1
    replace h2 : DataW.trod enc Try.prog W 0 (fun _ => true) true m 3 [c2] = some y2 := h2
    replace h3 : DataW.trod enc Try.prog W 0 (fun _ => true) true m 4 [c3] = some y3 := h3
    replace h4 : DataW.trod enc Try.prog W 0 (fun _ => true) true m 42 [c4] = some y4 := h4
    replace h5 : DataW.trod enc Try.prog W 0 (fun _ => true) true m 39 [c5] = some y5 := h5
    replace h6 : DataW.trod enc Try.prog W 0 (fun _ => true) true m 43 [c6] = some y6 := h6
    obtain ⟨s, e0, x0, m0⟩ := DataW.trod_string Try.underlying9 h0
    obtain ⟨z1, e1, x1, r1⟩ := DataW.trod_int Try.underlying3 h1
    obtain ⟨z2, e2, x2, r2⟩ := DataW.trod_int Try.underlying3 h2
    obtain ⟨bb, e3, x3⟩ := DataW.trod_bool Try.underlying4 h3
    cases e0; cases e1; cases e2; cases e3
    have hbd : Rows.uptoBulk y4.1 + Rows.uptoBulk y5.1 + Rows.uptoBulk y6.1 ≤ N := by
      rw [hx] at hN
      simp only [Rows.uptoBulk, Rows.uptoBulkAll] at hN
      omega
    obtain ⟨co, n, cc, op, a, b, rfl, k1, k2, k3, k4, k5, k6⟩ := open_code h4
    obtain ⟨I, q1, q2⟩ := open_row (N := N) (open_dat N) h5 (by omega)
    obtain ⟨na, nn, nc, L, rfl, l1, l2, l3, l4, l5⟩ := open_names h6
    obtain ⟨ka, kc, e5⟩ := q1.shape
    subst e5
    have t1 : -9223372036854775808 ≤ z1 ∧ z1 ≤ 9223372036854775807 := by simpa [Lit.wf, IntKind.min, IntKind.max, IntKind.signed, IntKind.bits] using r1
    have t2 : -9223372036854775808 ≤ z2 ∧ z2 ≤ 9223372036854775807 := by simpa [Lit.wf, IntKind.min, IntKind.max, IntKind.signed, IntKind.bits] using r2
    have hIl : I.length ≤ (I.map (bk N)).sum := sum_ge (m := bk N) (l := I) (fun a _ => bk_one N a)
    refine ⟨((⟨z1, z2, bb, I.length, nn, n, op, a, b⟩, ⟨s, co, cc, ka, kc, na, nc⟩), (I, L)), rfl, k6, ⟨t1.1, t1.2, t2.1, t2.2, k2, k3, ?_, ?_, fun j hj => (k5 j hj).1, fun j hj => (k5 j hj).2.1, fun j hj => (k5 j hj).2.2⟩, ⟨k1, q1, ?_, l1, l3, l4, l5, ?_, ?_⟩⟩
    · show I.length ≤ _
      omega
    · show nn ≤ _
      omega
    · show (I.map (bk N)).sum ≤ _
      omega
    · show n ≤ _
      omega
    · show nn ≤ _
      omega

set_option maxRecDepth 100000 in
/-- Protos that came in. -/
theorem open_protos {H : Type} {enc : TypeId × Value → H} {W : World} {N : Nat} (hN10 : N ≤ 10000000) {ao : Option Addr} {len cap : Nat} {d : DataW H} {p : List MemPlace} (h : DataW.Trod enc Try.prog W 0 (fun _ => true) true 22 (.slice ao len cap) d p) (hN : Rows.uptoBulk d ≤ N) :
    ∃ (P : Nat → PR) (Q : Nat → Hd) (I : Nat → List (Tr N)) (L : Nat → List Value), ProtosAt W ao len P Q ∧ (∀ i, i < len → PIn W N (P i) (Q i) (I i) (L i)) ∧ len ≤ cap ∧ cap ≤ 9223372036854775807 ∧ len ≤ 10000000 := by
  obtain ⟨fuel, hf⟩ := h
  rcases Go.Deep.open_slice Try.underlying22 hf with ⟨hcs, hx⟩ | ⟨a, len', cap', m, n, D, Pl, hcs, hb, hl, hm, hmm, hx, hel⟩
  · cases hcs
    exact ⟨fun _ => ⟨0, 0, false, 0, 0, 0, fun _ => 0, fun _ => 0, fun _ => 0⟩, fun _ => ⟨⟨#[]⟩, none, 0, none, 0, none, 0⟩, fun _ => [], fun _ => [], .inl rfl, fun i hi => by omega, by omega, by omega, by omega⟩
  · cases hcs
    obtain ⟨rfl, -⟩ := Prod.mk.inj hx
    simp at hmm
    subst hmm
    rw [cellsPr] at hel
    have hbl := bulk_len D len
    have hlN : len ≤ N := by
      simp only [Rows.uptoBulk] at hN
      omega
    have hall : ∀ i, i < len → ∃ t : (PR × Hd) × (List (Tr N) × List Value), (∀ j u, (prL t.1.1 t.1.2)[j]? = some u → W.cell? ((a.add (i * 7)).add j) = some u) ∧ CodeAt W t.1.2.co t.1.1 ∧ PB t.1.1 t.1.2 ∧ PIn W N t.1.1 t.1.2 t.2.1 t.2.2 := fun i hi => by
      obtain ⟨cs', h1, h2⟩ := hel i (by omega)
      obtain ⟨-, hlen, hc⟩ := World.cells?_some h1
      have hbi := bulk_get D len i hi
      obtain ⟨t, e, q1, q2, q3⟩ := open_proto hN10 hlen h2 (by
        simp only [Rows.uptoBulk] at hN
        show Rows.uptoBulk (D i) ≤ N
        omega)
      refine ⟨t, fun j u hj => ?_, q1, q2, q3⟩
      rw [← e] at hj
      have hj7 : j < 7 := by
        have := (List.getElem?_eq_some_iff.1 hj).1
        omega
      rw [hc j hj7]
      exact hj
    haveI : Inhabited ((PR × Hd) × (List (Tr N) × List Value)) := ⟨((⟨0, 0, false, 0, 0, 0, fun _ => 0, fun _ => 0, fun _ => 0⟩, ⟨⟨#[]⟩, none, 0, none, 0, none, 0⟩), ([], []))⟩
    obtain ⟨Y, hY⟩ := Go.Deep.choose_lt hall
    refine ⟨fun i => (Y i).1.1, fun i => (Y i).1.2, fun i => (Y i).2.1, fun i => (Y i).2.2, ?_, fun i hi => (hY i hi).2.2.2, hl, by unfold maxLen at hm; omega, by omega⟩
    by_cases h0 : len = 0
    · exact .inl h0
    · obtain ⟨b, off, spot⟩ := a
      have hspot : spot = none := by
        have h7 := (hY 0 (by omega)).1 0 _ rfl
        simpa [Addr.add] using World.cell?_spot h7
      subst hspot
      refine .inr ⟨b, off, rfl, fun i hi => ?_⟩
      obtain ⟨q0, q1, q2, -⟩ := hY i hi
      have hc : ∀ j u, (prL (Y i).1.1 (Y i).1.2)[j]? = some u → W.cell? ⟨b, off + i * 7 + j, none⟩ = some u := fun j u hj => by
        have := q0 j u hj
        rw [Addr.add_lit, Addr.add_lit] at this
        exact this
      exact ⟨⟨hc 0 _ rfl, hc 1 _ rfl, hc 2 _ rfl, hc 3 _ rfl, hc 4 _ rfl, hc 5 _ rfl, hc 6 _ rfl⟩, q1, q2⟩

end Go.Proofs.Ytmogglmofbbjlaa
