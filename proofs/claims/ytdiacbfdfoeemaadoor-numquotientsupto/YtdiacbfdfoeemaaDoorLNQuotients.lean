/-
  What is proved here: tandemlaw02.NumQuotients answers true for all numbers of up to 2^20 limbs.
-/
import Derived.Test.YtdiacbfdfoeemaaDoorR2Floor
namespace Go.Proofs.YtdiacbfdfoeemaaDoor
open Go Go.RowKit

/-! Short names, for the text's length. -/
theorem pz0 (b : Bool) : (b || false) = b := Bool.or_false b
theorem pz1 (b : Bool) : (false || b) = b := Bool.false_or b
theorem pz2 (b : Bool) : (b || true) = true := Bool.or_true b
theorem pz3 (b : Bool) : (true || b) = true := Bool.true_or b
theorem pz4 : (false = true) = False := by simp
theorem pz5 (n : Nat) : 0 + n = n := Nat.zero_add n
theorem pz6 {α : Type} {l : List α} {i : Nat} {a : α} : l.toArray.setIfInBounds i a = (l.set i a).toArray := List.setIfInBounds_toArray ..
theorem pz7 {α : Type} {x : α} {xs : List α} {a : α} : (x :: xs).set 0 a = a :: xs := rfl
theorem pz8 {α : Type} {x : α} {xs : List α} {i : Nat} {a : α} : (x :: xs).set (i + 1) a = x :: xs.set i a := rfl
theorem RdC.turn {X : Int} {M g m c0 : Nat} {p : Bool} {ao0 : Option Addr} {w w' : World} {a : Value} {E : TypeId} (h : RdC X M w a) (t : Turn g w w') (hg : w.heap[g]? = some (.cells #[.bool p, .slice ao0 m c0] E (0, 0))) : RdC X M w' a := by
  obtain ⟨b, n, f, ⟨v, rfl, ⟨ao', cap', rfl, h1, h2, h3, rd⟩⟩, c, l, s⟩ := h
  refine ⟨b, n, f, ⟨_, rfl, ⟨ao', cap', rfl, h1, h2, h3, ?_⟩⟩, c, l, s⟩
  rcases rd with h0 | ⟨bb, off, rfl, hc⟩
  · exact .inl h0
  · refine .inr ⟨bb, off, rfl, fun i hi => ?_⟩
    by_cases e : bb = g
    · subst e
      have hx := hc i hi
      rw [cell_of_row _ _ _ _ _ _ hg] at hx
      exfalso
      match hk : off + i with
      | 0 => rw [hk] at hx; simp at hx
      | 1 => rw [hk] at hx; simp at hx
      | k + 2 => rw [hk] at hx; simp at hx
    · exact (World.cell?_of_block (a := ⟨bb, off + i, none⟩) (t.block bb e)).trans (hc i hi)

set_option linter.unusedSimpArgs false in
set_option maxRecDepth 60000 in
set_option maxHeartbeats 4000000 in
theorem quotients_walk (aa : Value) (ba : Bool) (na : Nat) (fa : Nat → Nat) (ab : Value) (bb : Bool) (nb : Nat) (fb : Nat → Nat) (w : World) (haa : Nm w aa ba na fa) (hab : Nm w ab bb nb fb) (hfa : ∀ i, i < na → fa i < 4294967296) (hfb : ∀ i, i < nb → fb i < 4294967296) (hna : na ≤ 1048576) (hnb : nb ≤ 1048576) (htab : Tab w) :
    Calls Tryd.prog 6 #[aa, ab] w fun e w' => e = .returned (.bool true) ∧ Up w w' := by
  obtain ⟨va, rfl, hva⟩ := haa
  obtain ⟨aoa, capa, rfl, -⟩ := id hva
  obtain ⟨Xa, hXa⟩ : ∃ X, sgn ba (num 4294967296 fa na) = X := ⟨_, rfl⟩
  have Ra := hide (show RdD Xa na w (.agg #[.bool ba, .slice aoa na capa]) from ⟨ba, na, fa, ⟨_, rfl, hva⟩, hfa, Nat.le_refl _, hXa⟩)
  obtain ⟨vb, rfl, hvb⟩ := hab
  obtain ⟨aob, capb, rfl, -⟩ := id hvb
  obtain ⟨Xb, hXb⟩ : ∃ X, sgn bb (num 4294967296 fb nb) = X := ⟨_, rfl⟩
  have Rb := hide (show RdD Xb nb w (.agg #[.bool bb, .slice aob nb capb]) from ⟨bb, nb, fb, ⟨_, rfl, hvb⟩, hfb, Nat.le_refl _, hXb⟩)
  have HT := hide htab
  clear htab hva hfa hXa hvb hfb hXb
  have K2 := hide (two_blocks w (.cells #[.bool ba, .slice aoa na capa] 26) (.cells #[.bool bb, .slice aob nb capb] 26))
  have U0 := (up_alloc w (.cells #[.bool ba, .slice aoa na capa] 26)).tr (up_alloc _ (.cells #[.bool bb, .slice aob nb capb] 26))
  obtain ⟨ok, hok⟩ : ∃ ok, ok = decide (Xb ≠ 0) := ⟨_, rfl⟩
  have HOK := hide hok
  clear hok
  go_enter Tryd.func6, Tryd.ntmps6
  go_wp2_with fail
  refine wp_region_knd (by kernel_rfl) w U0 [[], [0], [], [2], [1, 3], [4], [5, 4], [5, 4], [5, 4], [], [], [9, 6, 5, 4], [10, 7, 5, 4], [8]] [.val [] (fun _ g _ => g.v = .agg #[.bool ba, .slice aoa na capa]), .val [] (fun w g _ => NumD (Xa) (na) w g.lo g.hi g.v), .val [] (fun _ g _ => g.v = .agg #[.bool bb, .slice aob nb capb]), .val [] (fun w g _ => NumD (Xb) (nb) w g.lo g.hi g.v), .val [] (fun w g _ => DivsIn (Int.tdiv Xa Xb) (rz Xa Xb) ok (1048576 + 1) w g.lo g.hi g.v), .val [4] (fun _ g vs => vs = [g.v]), .val [5] (fun _ g vs => ∃ b1 b2, vs = [.tuple #[g.v, b1, b2]]), .val [5] (fun _ g vs => ∃ b0 b2, vs = [.tuple #[b0, g.v, b2]]), .val [5] (fun _ g vs => ∃ b0 b1, vs = [.tuple #[b0, b1, g.v]]), .box 26 2, .box 26 2, .sto 9 6 26 2, .sto 10 7 26 2, .val [8] (fun _ g vs => vs = [g.v])] (by kernel_rfl) (by kernel_rfl) rfl ⟨trivial, trivial, trivial, trivial, trivial, trivial, trivial, trivial, trivial, trivial, trivial, trivial, trivial, trivial, trivial⟩ ⟨fun _ _ _ _ _ h => h, fun _ _ _ _ hb h => h.keep hb, fun _ _ _ _ _ h => h, fun _ _ _ _ hb h => h.keep hb, fun _ _ _ _ hb h => h.keep hb, fun _ _ _ _ _ h => h, fun _ _ _ _ _ h => h, fun _ _ _ _ _ h => h, fun _ _ _ _ _ h => h, trivial, trivial, trivial, trivial, fun _ _ _ _ _ h => h, trivial⟩ ⟨?_, ?_, ?_, ?_, ?_, ?_, ?_, ?_, ?_, ?_, ?_, ?_, ?_, ?_, trivial⟩ ?_
  · intro x w1 K hU hS hO hd hK
    obtain ⟨k0, k1, -⟩ := cells2 ((Up.tr (up_drew _) (hS.upb rfl)).blk (unhide K2).1)
    clear hd
    refine ⟨?_⟩; simp only [kgoal, putsFrom, depsOf, pu0, pu1, pu2, pu3, pz0, pz1, pz2, pz3, pz4, pz5, pz6, pz7, pz8, Nat.reduceAdd, Nat.reduceBEq, ↓reduceIte, Act.put]
    go_simp
    exact hK _ _ (Up.refl _) rfl
  · intro x w1 K hU hS hO hd hK
    have h0 : (x 0).v = .agg #[.bool ba, .slice aoa na capa] := kval (hd 0 (by decide)).1 rfl
    clear hd
    refine ⟨?_⟩; simp only [kgoal, putsFrom, depsOf, pu0, pu1, pu2, pu3, pz0, pz1, pz2, pz3, pz4, pz5, pz6, pz7, pz8, Nat.reduceAdd, Nat.reduceBEq, ↓reduceIte, Act.put]
    simp only [h0]
    go_simp
    refine (c_rd (M := na) ((RdD.wide (M' := na) ((unhide Ra).up hU) (by omega))) (by omega)).mono ?_
    rintro e w2 ⟨v2, rfl, n2, u2⟩
    exact hK _ _ u2 n2
  · intro x w1 K hU hS hO hd hK
    obtain ⟨k0, k1, -⟩ := cells2 ((Up.tr (up_drew _) (hS.upb rfl)).blk (unhide K2).2)
    clear hd
    refine ⟨?_⟩; simp only [kgoal, putsFrom, depsOf, pu0, pu1, pu2, pu3, pz0, pz1, pz2, pz3, pz4, pz5, pz6, pz7, pz8, Nat.reduceAdd, Nat.reduceBEq, ↓reduceIte, Act.put]
    go_simp
    exact hK _ _ (Up.refl _) rfl
  · intro x w1 K hU hS hO hd hK
    have h2 : (x 2).v = .agg #[.bool bb, .slice aob nb capb] := kval (hd 2 (by decide)).1 rfl
    clear hd
    refine ⟨?_⟩; simp only [kgoal, putsFrom, depsOf, pu0, pu1, pu2, pu3, pz0, pz1, pz2, pz3, pz4, pz5, pz6, pz7, pz8, Nat.reduceAdd, Nat.reduceBEq, ↓reduceIte, Act.put]
    simp only [h2]
    go_simp
    refine (c_rd (M := nb) ((RdD.wide (M' := nb) ((unhide Rb).up hU) (by omega))) (by omega)).mono ?_
    rintro e w2 ⟨v2, rfl, n2, u2⟩
    exact hK _ _ u2 n2
  · intro x w1 K hU hS hO hd hK
    have h1 : NumD (Xa) (na) w1 (x 1).lo (x 1).hi (x 1).v := kval (hd 1 (by decide)).1 rfl
    have h3 : NumD (Xb) (nb) w1 (x 3).lo (x 3).hi (x 3).v := kval (hd 3 (by decide)).1 rfl
    clear hd
    refine ⟨?_⟩; simp only [kgoal, putsFrom, depsOf, pu0, pu1, pu2, pu3, pz0, pz1, pz2, pz3, pz4, pz5, pz6, pz7, pz8, Nat.reduceAdd, Nat.reduceBEq, ↓reduceIte, Act.put]
    go_simp
    refine (trunc_rd (M := 1048576) (h1.rd (by omega)) (h3.rd (by omega)) (by omega)).mono ?_
    rintro e w2 ⟨v2, rfl, n2, u2⟩
    rw [← unhide HOK] at n2
    exact hK _ _ u2 n2
  · intro x w1 K hU hS hO hd hK
    refine ⟨?_⟩; simp only [kgoal, putsFrom, depsOf, pu0, pu1, pu2, pu3, pz0, pz1, pz2, pz3, pz4, pz5, pz6, pz7, pz8, Nat.reduceAdd, Nat.reduceBEq, ↓reduceIte, Act.put]
    go_simp
    exact hK _ _ (Up.refl _) rfl
  · intro x w1 K hU hS hO hd hK
    have h4 : DivsIn (Int.tdiv Xa Xb) (rz Xa Xb) ok (1048576 + 1) w1 (x 4).lo (x 4).hi (x 4).v := kval (hd 4 (by decide)).1 rfl
    obtain ⟨aq, ar, e0, nq, nr⟩ := h4
    have e1 : [(x 4).v] = [(x 5).v] := kval (hd 5 (by decide)).1 rfl
    have ej : (x 5).v = _ := (List.cons.inj e1).1.symm.trans e0
    obtain ⟨p1, p2, p3, p4, rfl⟩ := (nq.rd (Nat.le_refl _)).agg
    obtain ⟨p5, p6, p7, p8, rfl⟩ := (nr.rd (Nat.le_refl _)).agg
    clear nq nr
    clear hd
    refine ⟨?_⟩; simp only [kgoal, putsFrom, depsOf, pu0, pu1, pu2, pu3, pz0, pz1, pz2, pz3, pz4, pz5, pz6, pz7, pz8, Nat.reduceAdd, Nat.reduceBEq, ↓reduceIte, Act.put]
    go_simp
    exact hK _ _ (Up.refl _) ⟨_, _,  by show [(x 5).v] = _; rw [ej]; rfl⟩
  · intro x w1 K hU hS hO hd hK
    have h4 : DivsIn (Int.tdiv Xa Xb) (rz Xa Xb) ok (1048576 + 1) w1 (x 4).lo (x 4).hi (x 4).v := kval (hd 4 (by decide)).1 rfl
    obtain ⟨aq, ar, e0, nq, nr⟩ := h4
    have e1 : [(x 4).v] = [(x 5).v] := kval (hd 5 (by decide)).1 rfl
    have ej : (x 5).v = _ := (List.cons.inj e1).1.symm.trans e0
    obtain ⟨p1, p2, p3, p4, rfl⟩ := (nq.rd (Nat.le_refl _)).agg
    obtain ⟨p5, p6, p7, p8, rfl⟩ := (nr.rd (Nat.le_refl _)).agg
    clear nq nr
    clear hd
    refine ⟨?_⟩; simp only [kgoal, putsFrom, depsOf, pu0, pu1, pu2, pu3, pz0, pz1, pz2, pz3, pz4, pz5, pz6, pz7, pz8, Nat.reduceAdd, Nat.reduceBEq, ↓reduceIte, Act.put]
    go_simp
    exact hK _ _ (Up.refl _) ⟨_, _,  by show [(x 5).v] = _; rw [ej]; rfl⟩
  · intro x w1 K hU hS hO hd hK
    have h4 : DivsIn (Int.tdiv Xa Xb) (rz Xa Xb) ok (1048576 + 1) w1 (x 4).lo (x 4).hi (x 4).v := kval (hd 4 (by decide)).1 rfl
    obtain ⟨aq, ar, e0, nq, nr⟩ := h4
    have e1 : [(x 4).v] = [(x 5).v] := kval (hd 5 (by decide)).1 rfl
    have ej : (x 5).v = _ := (List.cons.inj e1).1.symm.trans e0
    obtain ⟨p1, p2, p3, p4, rfl⟩ := (nq.rd (Nat.le_refl _)).agg
    obtain ⟨p5, p6, p7, p8, rfl⟩ := (nr.rd (Nat.le_refl _)).agg
    clear nq nr
    clear hd
    refine ⟨?_⟩; simp only [kgoal, putsFrom, depsOf, pu0, pu1, pu2, pu3, pz0, pz1, pz2, pz3, pz4, pz5, pz6, pz7, pz8, Nat.reduceAdd, Nat.reduceBEq, ↓reduceIte, Act.put]
    go_simp
    exact hK _ _ (Up.refl _) ⟨_, _,  by show [(x 5).v] = _; rw [ej]; rfl⟩
  · intro x w1 K hU hS hO hd hK
    refine ⟨?_⟩; simp only [kgoal, putsFrom, depsOf, pu0, pu1, pu2, pu3, pz0, pz1, pz2, pz3, pz4, pz5, pz6, pz7, pz8, Nat.reduceAdd, Nat.reduceBEq, ↓reduceIte, Act.put]
    go_simp
    exact hK _ _ (up_alloc _ _) (box_new rfl hS)
  · intro x w1 K hU hS hO hd hK
    refine ⟨?_⟩; simp only [kgoal, putsFrom, depsOf, pu0, pu1, pu2, pu3, pz0, pz1, pz2, pz3, pz4, pz5, pz6, pz7, pz8, Nat.reduceAdd, Nat.reduceBEq, ↓reduceIte, Act.put]
    go_simp
    exact hK _ _ (up_alloc _ _) (box_new rfl hS)
  · intro x w1 K hU hS hO hd hK
    obtain ⟨c0, c1, eb, hb⟩ := kbox2 (hd 9 (by decide)).1 rfl
    have h4 : DivsIn (Int.tdiv Xa Xb) (rz Xa Xb) ok (1048576 + 1) w1 (x 4).lo (x 4).hi (x 4).v := kval (hd 4 (by decide)).1 rfl
    obtain ⟨aq, ar, e0, nq, nr⟩ := h4
    have e1 : [(x 4).v] = [(x 5).v] := kval (hd 5 (by decide)).1 rfl
    have ej : (x 5).v = _ := (List.cons.inj e1).1.symm.trans e0
    have es : ∃ b1 b2, [(x 5).v] = [Value.tuple #[(x 6).v, b1, b2]] := kval (hd 6 (by decide)).1 rfl
    obtain ⟨b1, b2, es⟩ := es
    rw [ej] at es
    obtain ⟨p1, p2, p3, p4, ea⟩ := (nq.rd (Nat.le_refl _)).agg
    replace es := (tup3 (List.cons.inj es).1).1.symm
    rw [ea] at es
    clear nq nr e0 e1 ej ea
    obtain ⟨d0, d1, f0, f1, -⟩ := cells2 hb
    clear hd
    refine ⟨?_⟩; simp only [kgoal, putsFrom, depsOf, pu0, pu1, pu2, pu3, pz0, pz1, pz2, pz3, pz4, pz5, pz6, pz7, pz8, Nat.reduceAdd, Nat.reduceBEq, ↓reduceIte, Act.put]
    go_simp
    exact hK _ _ (sto_two hb _ _).1 ⟨_, rfl, es, (sto_two hb _ _).2⟩
  · intro x w1 K hU hS hO hd hK
    obtain ⟨c0, c1, eb, hb⟩ := kbox2 (hd 10 (by decide)).1 rfl
    have h4 : DivsIn (Int.tdiv Xa Xb) (rz Xa Xb) ok (1048576 + 1) w1 (x 4).lo (x 4).hi (x 4).v := kval (hd 4 (by decide)).1 rfl
    obtain ⟨aq, ar, e0, nq, nr⟩ := h4
    have e1 : [(x 4).v] = [(x 5).v] := kval (hd 5 (by decide)).1 rfl
    have ej : (x 5).v = _ := (List.cons.inj e1).1.symm.trans e0
    have es : ∃ b0 b2, [(x 5).v] = [Value.tuple #[b0, (x 7).v, b2]] := kval (hd 7 (by decide)).1 rfl
    obtain ⟨b0, b2, es⟩ := es
    rw [ej] at es
    obtain ⟨p1, p2, p3, p4, ea⟩ := (nr.rd (Nat.le_refl _)).agg
    replace es := (tup3 (List.cons.inj es).1).2.1.symm
    rw [ea] at es
    clear nq nr e0 e1 ej ea
    obtain ⟨d0, d1, f0, f1, -⟩ := cells2 hb
    clear hd
    refine ⟨?_⟩; simp only [kgoal, putsFrom, depsOf, pu0, pu1, pu2, pu3, pz0, pz1, pz2, pz3, pz4, pz5, pz6, pz7, pz8, Nat.reduceAdd, Nat.reduceBEq, ↓reduceIte, Act.put]
    go_simp
    exact hK _ _ (sto_two hb _ _).1 ⟨_, rfl, es, (sto_two hb _ _).2⟩
  · intro x w1 K hU hS hO hd hK
    refine ⟨?_⟩; simp only [kgoal, putsFrom, depsOf, pu0, pu1, pu2, pu3, pz0, pz1, pz2, pz3, pz4, pz5, pz6, pz7, pz8, Nat.reduceAdd, Nat.reduceBEq, ↓reduceIte, Act.put]
    go_simp
    exact hK _ _ (Up.refl _) rfl
  intro x w1 hU hS hR hlo hdis
  have zq : w.heap.size + 1 + 1 ≤ (x 9).lo := by have := (hlo 9 (by decide)).1; simpa using this
  have zr : w.heap.size + 1 + 1 ≤ (x 10).lo := by have := (hlo 10 (by decide)).1; simpa using this
  have hqr : (x 9).lo ≠ (x 10).lo := by
    have h1 := (kbox (hR 9 (by decide)) rfl).2
    have h2 := (kbox (hR 10 (by decide)) rfl).2
    have h3 := hdis 9 10 (by decide) (by decide) (by decide)
    omega
  have hG := hS.upb rfl
  obtain ⟨eb1, lb1⟩ := kbox (hR 9 (by decide)) rfl
  obtain ⟨eb2, lb2⟩ := kbox (hR 10 (by decide)) rfl
  have hv : DivsIn (Int.tdiv Xa Xb) (rz Xa Xb) ok (1048576 + 1) w1 (x 4).lo (x 4).hi (x 4).v := kval (hR 4 (by decide)) rfl
  obtain ⟨aq, ar, e0, nq', nr'⟩ := hv
  have e1 : [(x 4).v] = [(x 5).v] := kval (hR 5 (by decide)) rfl
  have ej : (x 5).v = _ := (List.cons.inj e1).1.symm.trans e0
  have f0 : ∃ b c, [(x 5).v] = [Value.tuple #[(x 6).v, b, c]] := kval (hR 6 (by decide)) rfl
  obtain ⟨_, _, f0⟩ := f0
  have f1 : ∃ b c, [(x 5).v] = [Value.tuple #[b, (x 7).v, c]] := kval (hR 7 (by decide)) rfl
  obtain ⟨_, _, f1⟩ := f1
  have f2 : ∃ b c, [(x 5).v] = [Value.tuple #[b, c, (x 8).v]] := kval (hR 8 (by decide)) rfl
  obtain ⟨_, _, f2⟩ := f2
  have fa : [(x 8).v] = [(x 13).v] := kval (hR 13 (by decide)) rfl
  obtain ⟨cs1, -, q1, Tq⟩ := ksto (hR 11 (by decide)) rfl
  obtain ⟨cs2, -, q2, Tr⟩ := ksto (hR 12 (by decide)) rfl
  rw [ej] at f0 f1 f2
  replace f0 := (tup3 (List.cons.inj f0).1).1.symm
  replace f1 := (tup3 (List.cons.inj f1).1).2.1.symm
  replace f2 := (tup3 (List.cons.inj f2).1).2.2.symm
  have fa' : (x 13).v = .bool ok := by rw [← f2]; exact (List.cons.inj fa).1.symm
  obtain ⟨bq, aoq, nq, capq, eaq⟩ := (nq'.rd (Nat.le_refl _)).agg
  subst eaq
  rw [f0] at q1
  cases q1
  have Cq := hide nq'.rc
  obtain ⟨br, aor, nr, capr, ear⟩ := (nr'.rd (Nat.le_refl _)).agg
  subst ear
  rw [f1] at q2
  cases q2
  have Cr := hide nr'.rc
  refine ⟨?_⟩; simp only [kgoal, putsFrom, depsOf, pu0, pu1, pu2, pu3, pz0, pz1, pz2, pz3, pz4, pz5, pz6, pz7, pz8, Nat.reduceAdd, Nat.reduceBEq, ↓reduceIte, Act.put]
  rw [eb1, eb2, fa']
  generalize (x 0).v = y0q at *
  generalize (x 1).v = y1q at *
  generalize (x 2).v = y2q at *
  generalize (x 3).v = y3q at *
  generalize (x 4).v = y4q at *
  generalize (x 5).v = y5q at *
  generalize (x 6).v = y6q at *
  generalize (x 7).v = y7q at *
  generalize (x 8).v = y8q at *
  generalize (x 9).lo = gq at *
  generalize (x 10).lo = gr at *
  have B1 := Up.tr (up_drew _) hG
  have U1 := hU
  clear hR hlo hdis hS hG hU nq' nr' e0 e1 ej f0 f1 f2 fa fa' eb1 eb2
  obtain ⟨i0, i1, -⟩ := cells2 (B1.blk (unhide K2).1)
  obtain ⟨i2, i3, -⟩ := cells2 (B1.blk (unhide K2).2)
  go_wp2_with fail
  clear i0 i1 i2 i3
  refine (r2trunc_rd (M := 1048576) (((unhide Ra).up U1).wide (by omega)) (((unhide Rb).up U1).wide (by omega)) (by omega)).mono ?_
  rintro e w2 ⟨v2, rfl, ⟨ax, ay, rfl, nx', ny'⟩, u2⟩
  rw [← unhide HOK]
  obtain ⟨bx, aox, nx, capx, eax⟩ := (nx'.rd (Nat.le_refl _)).agg
  subst eax
  obtain ⟨by', aoy, ny, capy, eay⟩ := (ny'.rd (Nat.le_refl _)).agg
  subst eay
  have UB := (up_alloc w2 (.cells #[.bool bx, .slice aox nx capx] 26)).tr (up_alloc _ (.cells #[.bool by', .slice aoy ny capy] 26))
  have TXY := two_blocks w2 (.cells #[.bool bx, .slice aox nx capx] 26) (.cells #[.bool by', .slice aoy ny capy] 26)
  have Tx := TXY.1
  have Ty := TXY.2
  have Cx := hide (nx'.rc.up UB)
  have Cy := hide (ny'.rc.up UB)
  have D2 := u2.tr UB
  have lq := (Array.getElem?_eq_some_iff.1 Tq).1
  have lr := (Array.getElem?_eq_some_iff.1 Tr).1
  have lx := u2.size
  have hw2 : w.heap.size ≤ w2.heap.size := by omega
  have nqx : gq ≠ w2.heap.size := by omega
  have nrx : gr ≠ w2.heap.size := by omega
  have nqy : gq ≠ w2.heap.size + 1 := by omega
  have nry : gr ≠ w2.heap.size + 1 := by omega
  have naq : w.heap.size ≠ gq := by omega
  have nar : w.heap.size ≠ gr := by omega
  have nbq : w.heap.size + 1 ≠ gq := by omega
  have nbr : w.heap.size + 1 ≠ gr := by omega
  replace Tq := D2.blk Tq
  replace Cq := hide ((unhide Cq).up D2)
  replace Tr := D2.blk Tr
  replace Cr := hide ((unhide Cr).up D2)
  have B2 := B1.tr D2
  have U2 := U1.tr D2
  clear u2 nx' ny' UB TXY D2 U1 B1 lq lr lx
  obtain ⟨i0, i1, -⟩ := cells2 Tq
  obtain ⟨i2, i3, -⟩ := cells2 Tx
  go_wp2_with fail
  refine (same_rd (unhide Cq) (unhide Cx) rfl).mono ?_
  rintro e w3 ⟨v3, rfl, rfl, u3⟩
  clear i0 i1 i2 i3
  replace Tq := u3.blk Tq
  replace Cq := hide ((unhide Cq).up u3)
  replace Tr := u3.blk Tr
  replace Cr := hide ((unhide Cr).up u3)
  replace Tx := u3.blk Tx
  replace Cx := hide ((unhide Cx).up u3)
  replace Ty := u3.blk Ty
  replace Cy := hide ((unhide Cy).up u3)
  have B3 := B2.tr u3
  have U3 := U2.tr u3
  clear B2 U2 u3
  obtain ⟨i0, i1, -⟩ := cells2 Tr
  obtain ⟨i2, i3, -⟩ := cells2 Ty
  go_wp2_with fail
  refine (same_rd (unhide Cr) (unhide Cy) rfl).mono ?_
  rintro e w4 ⟨v4, rfl, rfl, u4⟩
  clear i0 i1 i2 i3
  replace Tq := u4.blk Tq
  replace Cq := hide ((unhide Cq).up u4)
  replace Tr := u4.blk Tr
  replace Cr := hide ((unhide Cr).up u4)
  replace Tx := u4.blk Tx
  replace Cx := hide ((unhide Cx).up u4)
  replace Ty := u4.blk Ty
  replace Cy := hide ((unhide Cy).up u4)
  have B4 := B3.tr u4
  have U4 := U3.tr u4
  have KA := B4.blk (unhide K2).1
  have KB := B4.blk (unhide K2).2
  clear B3 U3 u4
  go_wp2_with fail
  refine wp_region_knd (by kernel_rfl) w U4 [[], [0], [], [2], [1, 3], [4], [5, 4], [5, 4], [5, 4], [6, 5, 4], [7, 5, 4], [8]] [.val [] (fun _ g _ => g.v = .agg #[.bool ba, .slice aoa na capa]), .val [] (fun w g _ => NumD (Xa) (na) w g.lo g.hi g.v), .val [] (fun _ g _ => g.v = .agg #[.bool bb, .slice aob nb capb]), .val [] (fun w g _ => NumD (Xb) (nb) w g.lo g.hi g.v), .val [] (fun w g _ => DivsIn (Int.fdiv Xa Xb) (if Xb = 0 then 0 else Int.fmod Xa Xb) ok (1048576 + 2) w g.lo g.hi g.v), .val [4] (fun _ g vs => vs = [g.v]), .val [5] (fun _ g vs => ∃ b1 b2, vs = [.tuple #[g.v, b1, b2]]), .val [5] (fun _ g vs => ∃ b0 b2, vs = [.tuple #[b0, g.v, b2]]), .val [5] (fun _ g vs => ∃ b0 b1, vs = [.tuple #[b0, b1, g.v]]), .old (gq) 6 26 2, .old (gr) 7 26 2, .val [8] (fun _ g vs => vs = [g.v])] (by kernel_rfl) (by kernel_rfl) rfl ⟨trivial, trivial, trivial, trivial, trivial, trivial, trivial, trivial, trivial, ⟨by omega, (Array.getElem?_eq_some_iff.1 Tq).1, by simp [oldG]; exact fun e => hqr e.symm⟩, ⟨by omega, (Array.getElem?_eq_some_iff.1 Tr).1, by simp [oldG]⟩, trivial, trivial⟩ ⟨fun _ _ _ _ _ h => h, fun _ _ _ _ hb h => h.keep hb, fun _ _ _ _ _ h => h, fun _ _ _ _ hb h => h.keep hb, fun _ _ _ _ hb h => h.keep hb, fun _ _ _ _ _ h => h, fun _ _ _ _ _ h => h, fun _ _ _ _ _ h => h, fun _ _ _ _ _ h => h, trivial, trivial, fun _ _ _ _ _ h => h, trivial⟩ ⟨?_, ?_, ?_, ?_, ?_, ?_, ?_, ?_, ?_, ?_, ?_, ?_, trivial⟩ ?_
  · intro x w1 K hU hS hO hd hK
    obtain ⟨k0, k1, -⟩ := cells2 (hS.at KA ⟨trivial, trivial, trivial, trivial, trivial, trivial, trivial, trivial, trivial, naq, nar, trivial, trivial⟩)
    clear hd
    refine ⟨?_⟩; simp only [kgoal, putsFrom, depsOf, pu0, pu1, pu2, pu3, pz0, pz1, pz2, pz3, pz4, pz5, pz6, pz7, pz8, Nat.reduceAdd, Nat.reduceBEq, ↓reduceIte, Act.put]
    go_simp
    exact hK _ _ (Up.refl _) rfl
  · intro x w1 K hU hS hO hd hK
    have h0 : (x 0).v = .agg #[.bool ba, .slice aoa na capa] := kval (hd 0 (by decide)).1 rfl
    clear hd
    refine ⟨?_⟩; simp only [kgoal, putsFrom, depsOf, pu0, pu1, pu2, pu3, pz0, pz1, pz2, pz3, pz4, pz5, pz6, pz7, pz8, Nat.reduceAdd, Nat.reduceBEq, ↓reduceIte, Act.put]
    simp only [h0]
    go_simp
    refine (c_rd (M := na) ((RdD.wide (M' := na) ((unhide Ra).up hU) (by omega))) (by omega)).mono ?_
    rintro e w2 ⟨v2, rfl, n2, u2⟩
    exact hK _ _ u2 n2
  · intro x w1 K hU hS hO hd hK
    obtain ⟨k0, k1, -⟩ := cells2 (hS.at KB ⟨trivial, trivial, trivial, trivial, trivial, trivial, trivial, trivial, trivial, nbq, nbr, trivial, trivial⟩)
    clear hd
    refine ⟨?_⟩; simp only [kgoal, putsFrom, depsOf, pu0, pu1, pu2, pu3, pz0, pz1, pz2, pz3, pz4, pz5, pz6, pz7, pz8, Nat.reduceAdd, Nat.reduceBEq, ↓reduceIte, Act.put]
    go_simp
    exact hK _ _ (Up.refl _) rfl
  · intro x w1 K hU hS hO hd hK
    have h2 : (x 2).v = .agg #[.bool bb, .slice aob nb capb] := kval (hd 2 (by decide)).1 rfl
    clear hd
    refine ⟨?_⟩; simp only [kgoal, putsFrom, depsOf, pu0, pu1, pu2, pu3, pz0, pz1, pz2, pz3, pz4, pz5, pz6, pz7, pz8, Nat.reduceAdd, Nat.reduceBEq, ↓reduceIte, Act.put]
    simp only [h2]
    go_simp
    refine (c_rd (M := nb) ((RdD.wide (M' := nb) ((unhide Rb).up hU) (by omega))) (by omega)).mono ?_
    rintro e w2 ⟨v2, rfl, n2, u2⟩
    exact hK _ _ u2 n2
  · intro x w1 K hU hS hO hd hK
    have h1 : NumD (Xa) (na) w1 (x 1).lo (x 1).hi (x 1).v := kval (hd 1 (by decide)).1 rfl
    have h3 : NumD (Xb) (nb) w1 (x 3).lo (x 3).hi (x 3).v := kval (hd 3 (by decide)).1 rfl
    clear hd
    refine ⟨?_⟩; simp only [kgoal, putsFrom, depsOf, pu0, pu1, pu2, pu3, pz0, pz1, pz2, pz3, pz4, pz5, pz6, pz7, pz8, Nat.reduceAdd, Nat.reduceBEq, ↓reduceIte, Act.put]
    go_simp
    refine (floor_rd (M := 1048576) (h1.rd (by omega)) (h3.rd (by omega)) (by omega)).mono ?_
    rintro e w2 ⟨v2, rfl, n2, u2⟩
    rw [← unhide HOK] at n2
    exact hK _ _ u2 n2
  · intro x w1 K hU hS hO hd hK
    refine ⟨?_⟩; simp only [kgoal, putsFrom, depsOf, pu0, pu1, pu2, pu3, pz0, pz1, pz2, pz3, pz4, pz5, pz6, pz7, pz8, Nat.reduceAdd, Nat.reduceBEq, ↓reduceIte, Act.put]
    go_simp
    exact hK _ _ (Up.refl _) rfl
  · intro x w1 K hU hS hO hd hK
    have h4 : DivsIn (Int.fdiv Xa Xb) (if Xb = 0 then 0 else Int.fmod Xa Xb) ok (1048576 + 2) w1 (x 4).lo (x 4).hi (x 4).v := kval (hd 4 (by decide)).1 rfl
    obtain ⟨aq, ar, e0, nq, nr⟩ := h4
    have e1 : [(x 4).v] = [(x 5).v] := kval (hd 5 (by decide)).1 rfl
    have ej : (x 5).v = _ := (List.cons.inj e1).1.symm.trans e0
    obtain ⟨p1, p2, p3, p4, rfl⟩ := (nq.rd (Nat.le_refl _)).agg
    obtain ⟨p5, p6, p7, p8, rfl⟩ := (nr.rd (Nat.le_refl _)).agg
    clear nq nr
    clear hd
    refine ⟨?_⟩; simp only [kgoal, putsFrom, depsOf, pu0, pu1, pu2, pu3, pz0, pz1, pz2, pz3, pz4, pz5, pz6, pz7, pz8, Nat.reduceAdd, Nat.reduceBEq, ↓reduceIte, Act.put]
    go_simp
    exact hK _ _ (Up.refl _) ⟨_, _,  by show [(x 5).v] = _; rw [ej]; rfl⟩
  · intro x w1 K hU hS hO hd hK
    have h4 : DivsIn (Int.fdiv Xa Xb) (if Xb = 0 then 0 else Int.fmod Xa Xb) ok (1048576 + 2) w1 (x 4).lo (x 4).hi (x 4).v := kval (hd 4 (by decide)).1 rfl
    obtain ⟨aq, ar, e0, nq, nr⟩ := h4
    have e1 : [(x 4).v] = [(x 5).v] := kval (hd 5 (by decide)).1 rfl
    have ej : (x 5).v = _ := (List.cons.inj e1).1.symm.trans e0
    obtain ⟨p1, p2, p3, p4, rfl⟩ := (nq.rd (Nat.le_refl _)).agg
    obtain ⟨p5, p6, p7, p8, rfl⟩ := (nr.rd (Nat.le_refl _)).agg
    clear nq nr
    clear hd
    refine ⟨?_⟩; simp only [kgoal, putsFrom, depsOf, pu0, pu1, pu2, pu3, pz0, pz1, pz2, pz3, pz4, pz5, pz6, pz7, pz8, Nat.reduceAdd, Nat.reduceBEq, ↓reduceIte, Act.put]
    go_simp
    exact hK _ _ (Up.refl _) ⟨_, _,  by show [(x 5).v] = _; rw [ej]; rfl⟩
  · intro x w1 K hU hS hO hd hK
    have h4 : DivsIn (Int.fdiv Xa Xb) (if Xb = 0 then 0 else Int.fmod Xa Xb) ok (1048576 + 2) w1 (x 4).lo (x 4).hi (x 4).v := kval (hd 4 (by decide)).1 rfl
    obtain ⟨aq, ar, e0, nq, nr⟩ := h4
    have e1 : [(x 4).v] = [(x 5).v] := kval (hd 5 (by decide)).1 rfl
    have ej : (x 5).v = _ := (List.cons.inj e1).1.symm.trans e0
    obtain ⟨p1, p2, p3, p4, rfl⟩ := (nq.rd (Nat.le_refl _)).agg
    obtain ⟨p5, p6, p7, p8, rfl⟩ := (nr.rd (Nat.le_refl _)).agg
    clear nq nr
    clear hd
    refine ⟨?_⟩; simp only [kgoal, putsFrom, depsOf, pu0, pu1, pu2, pu3, pz0, pz1, pz2, pz3, pz4, pz5, pz6, pz7, pz8, Nat.reduceAdd, Nat.reduceBEq, ↓reduceIte, Act.put]
    go_simp
    exact hK _ _ (Up.refl _) ⟨_, _,  by show [(x 5).v] = _; rw [ej]; rfl⟩
  · intro x w1 K hU hS hO hd hK
    have h4 : DivsIn (Int.fdiv Xa Xb) (if Xb = 0 then 0 else Int.fmod Xa Xb) ok (1048576 + 2) w1 (x 4).lo (x 4).hi (x 4).v := kval (hd 4 (by decide)).1 rfl
    obtain ⟨aq, ar, e0, nq, nr⟩ := h4
    have e1 : [(x 4).v] = [(x 5).v] := kval (hd 5 (by decide)).1 rfl
    have ej : (x 5).v = _ := (List.cons.inj e1).1.symm.trans e0
    have es : ∃ b1 b2, [(x 5).v] = [Value.tuple #[(x 6).v, b1, b2]] := kval (hd 6 (by decide)).1 rfl
    obtain ⟨b1, b2, es⟩ := es
    rw [ej] at es
    obtain ⟨p1, p2, p3, p4, ea⟩ := (nq.rd (Nat.le_refl _)).agg
    replace es := (tup3 (List.cons.inj es).1).1.symm
    rw [ea] at es
    clear nq nr e0 e1 ej ea
    have tt := (hO 9 _ _ rfl rfl (.inl rfl)).trans Tq
    obtain ⟨d0, d1, f0, f1, -⟩ := cells2 tt
    clear hd
    refine ⟨?_⟩; simp only [kgoal, putsFrom, depsOf, pu0, pu1, pu2, pu3, pz0, pz1, pz2, pz3, pz4, pz5, pz6, pz7, pz8, Nat.reduceAdd, Nat.reduceBEq, ↓reduceIte, Act.put]
    go_simp
    exact hK _ _ (sto_two tt _ _).1 ⟨_, rfl, es, (sto_two tt _ _).2⟩
  · intro x w1 K hU hS hO hd hK
    have h4 : DivsIn (Int.fdiv Xa Xb) (if Xb = 0 then 0 else Int.fmod Xa Xb) ok (1048576 + 2) w1 (x 4).lo (x 4).hi (x 4).v := kval (hd 4 (by decide)).1 rfl
    obtain ⟨aq, ar, e0, nq, nr⟩ := h4
    have e1 : [(x 4).v] = [(x 5).v] := kval (hd 5 (by decide)).1 rfl
    have ej : (x 5).v = _ := (List.cons.inj e1).1.symm.trans e0
    have es : ∃ b0 b2, [(x 5).v] = [Value.tuple #[b0, (x 7).v, b2]] := kval (hd 7 (by decide)).1 rfl
    obtain ⟨b0, b2, es⟩ := es
    rw [ej] at es
    obtain ⟨p1, p2, p3, p4, ea⟩ := (nr.rd (Nat.le_refl _)).agg
    replace es := (tup3 (List.cons.inj es).1).2.1.symm
    rw [ea] at es
    clear nq nr e0 e1 ej ea
    have tt := (hO 10 _ _ rfl rfl (.inl rfl)).trans Tr
    obtain ⟨d0, d1, f0, f1, -⟩ := cells2 tt
    clear hd
    refine ⟨?_⟩; simp only [kgoal, putsFrom, depsOf, pu0, pu1, pu2, pu3, pz0, pz1, pz2, pz3, pz4, pz5, pz6, pz7, pz8, Nat.reduceAdd, Nat.reduceBEq, ↓reduceIte, Act.put]
    go_simp
    exact hK _ _ (sto_two tt _ _).1 ⟨_, rfl, es, (sto_two tt _ _).2⟩
  · intro x w1 K hU hS hO hd hK
    refine ⟨?_⟩; simp only [kgoal, putsFrom, depsOf, pu0, pu1, pu2, pu3, pz0, pz1, pz2, pz3, pz4, pz5, pz6, pz7, pz8, Nat.reduceAdd, Nat.reduceBEq, ↓reduceIte, Act.put]
    go_simp
    exact hK _ _ (Up.refl _) rfl
  intro x w1 hU hS hR hlo hdis
  have hv : DivsIn (Int.fdiv Xa Xb) (if Xb = 0 then 0 else Int.fmod Xa Xb) ok (1048576 + 2) w1 (x 4).lo (x 4).hi (x 4).v := kval (hR 4 (by decide)) rfl
  obtain ⟨aq, ar, e0, nq', nr'⟩ := hv
  have e1 : [(x 4).v] = [(x 5).v] := kval (hR 5 (by decide)) rfl
  have ej : (x 5).v = _ := (List.cons.inj e1).1.symm.trans e0
  have f0 : ∃ b c, [(x 5).v] = [Value.tuple #[(x 6).v, b, c]] := kval (hR 6 (by decide)) rfl
  obtain ⟨_, _, f0⟩ := f0
  have f1 : ∃ b c, [(x 5).v] = [Value.tuple #[b, (x 7).v, c]] := kval (hR 7 (by decide)) rfl
  obtain ⟨_, _, f1⟩ := f1
  have f2 : ∃ b c, [(x 5).v] = [Value.tuple #[b, c, (x 8).v]] := kval (hR 8 (by decide)) rfl
  obtain ⟨_, _, f2⟩ := f2
  have fa : [(x 8).v] = [(x 11).v] := kval (hR 11 (by decide)) rfl
  obtain ⟨cs1, -, q1, Tf⟩ := kold (hR 9 (by decide)) rfl
  obtain ⟨cs2, -, q2, Tm⟩ := kold (hR 10 (by decide)) rfl
  rw [ej] at f0 f1 f2
  replace f0 := (tup3 (List.cons.inj f0).1).1.symm
  replace f1 := (tup3 (List.cons.inj f1).1).2.1.symm
  replace f2 := (tup3 (List.cons.inj f2).1).2.2.symm
  have fa' : (x 11).v = .bool ok := by rw [← f2]; exact (List.cons.inj fa).1.symm
  obtain ⟨bf, aof, nf, capf, eaf⟩ := (nq'.rd (Nat.le_refl _)).agg
  subst eaf
  rw [f0] at q1
  cases q1
  have Cf := hide nq'.rc
  obtain ⟨bm, aom, nm, capm, eam⟩ := (nr'.rd (Nat.le_refl _)).agg
  subst eam
  rw [f1] at q2
  cases q2
  have Cm := hide nr'.rc
  have KA' := hS.at KA ⟨trivial, trivial, trivial, trivial, trivial, trivial, trivial, trivial, trivial, naq, nar, trivial, trivial⟩
  have KB' := hS.at KB ⟨trivial, trivial, trivial, trivial, trivial, trivial, trivial, trivial, trivial, nbq, nbr, trivial, trivial⟩
  have Tx' := hS.at Tx ⟨trivial, trivial, trivial, trivial, trivial, trivial, trivial, trivial, trivial, nqx.symm, nrx.symm, trivial, trivial⟩
  have Ty' := hS.at Ty ⟨trivial, trivial, trivial, trivial, trivial, trivial, trivial, trivial, trivial, nqy.symm, nry.symm, trivial, trivial⟩
  refine ⟨?_⟩; simp only [kgoal, putsFrom, depsOf, pu0, pu1, pu2, pu3, pz0, pz1, pz2, pz3, pz4, pz5, pz6, pz7, pz8, Nat.reduceAdd, Nat.reduceBEq, ↓reduceIte, Act.put]
  rw [fa']
  generalize (x 0).v = y0 at *
  generalize (x 1).v = y1 at *
  generalize (x 2).v = y2 at *
  generalize (x 3).v = y3 at *
  generalize (x 4).v = y4 at *
  generalize (x 5).v = y5 at *
  generalize (x 6).v = y6 at *
  generalize (x 7).v = y7 at *
  generalize (x 8).v = y8 at *
  have U5 := hU
  clear hR hlo hdis hS hU nq' nr' e0 e1 ej f0 f1 f2 fa fa' KA KB Tx Ty Cx Cy Tq Tr Cq Cr
  obtain ⟨i0, i1, -⟩ := cells2 KA'
  obtain ⟨i2, i3, -⟩ := cells2 KB'
  go_wp2_with fail
  clear i0 i1 i2 i3
  refine (r2floor_rd (M := 1048576) (((unhide Ra).up U5).wide (by omega)) (((unhide Rb).up U5).wide (by omega)) (by omega)).mono ?_
  rintro e w6 ⟨v6, rfl, ⟨ax, ay, rfl, nx', ny'⟩, u6⟩
  rw [← unhide HOK]
  obtain ⟨bx', aox', nx2, capx', eax⟩ := (nx'.rd (Nat.le_refl _)).agg
  subst eax
  obtain ⟨by2, aoy', ny2, capy', eay⟩ := (ny'.rd (Nat.le_refl _)).agg
  subst eay
  have Tx6 := u6.blk Tx'
  have Ty6 := u6.blk Ty'
  have lx6 := (Array.getElem?_eq_some_iff.1 Tx').1
  have ly6 := (Array.getElem?_eq_some_iff.1 Ty').1
  obtain ⟨i0, i1, i2, i3, -⟩ := cells2 Tx6
  obtain ⟨t1, Tx7⟩ := sto_two Tx6 (.bool bx') (.slice aox' nx2 capx')
  have Ty7 := (t1.block _ (by omega)).trans Ty6
  obtain ⟨j0, j1, j2, j3, -⟩ := cells2 Ty7
  obtain ⟨t2, Ty8⟩ := sto_two Ty7 (.bool by2) (.slice aoy' ny2 capy')
  have Tx8 := (t2.block _ (by omega)).trans Tx7
  have Tf8 := (t2.block _ nqy).trans ((t1.block _ nqx).trans (u6.blk Tf))
  have Tm8 := (t2.block _ nry).trans ((t1.block _ nrx).trans (u6.blk Tm))
  have U8 := t2.up (t1.up (U5.tr u6) hw2) (by omega)
  have Cx8 := hide (RdC.turn (RdC.turn nx'.rc t1 Tx6) t2 Ty7)
  have Cy8 := hide (RdC.turn (RdC.turn ny'.rc t1 Tx6) t2 Ty7)
  have Cf8 := hide (RdC.turn (RdC.turn ((unhide Cf).up u6) t1 Tx6) t2 Ty7)
  have Cm8 := hide (RdC.turn (RdC.turn ((unhide Cm).up u6) t1 Tx6) t2 Ty7)
  clear Cf Cm Tx6 Ty6 Tx7 Ty7 Tf Tm nx' ny' u6
  obtain ⟨k0, k1, -⟩ := cells2 Tf8
  obtain ⟨k2, k3, -⟩ := cells2 Tx8
  go_wp2_with fail
  clear i0 i1 i2 i3 j0 j1 j2 j3 k0 k1 k2 k3 t1 t2
  generalize (((w6.setCell ⟨w2.heap.size, 0, none⟩ (.bool bx')).setCell ⟨w2.heap.size, 1, none⟩ (.slice aox' nx2 capx')).setCell ⟨w2.heap.size + 1, 0, none⟩ (.bool by2)).setCell ⟨w2.heap.size + 1, 1, none⟩ (.slice aoy' ny2 capy') = w8 at *
  refine (same_rd (unhide Cf8) (unhide Cx8) rfl).mono ?_
  rintro e w9 ⟨v9, rfl, rfl, u9⟩
  obtain ⟨k0, k1, -⟩ := cells2 (u9.blk Tm8)
  obtain ⟨k2, k3, -⟩ := cells2 (u9.blk Ty8)
  go_wp2_with fail
  refine (same_rd ((unhide Cm8).up u9) ((unhide Cy8).up u9) rfl).mono ?_
  rintro e wA ⟨vA, rfl, rfl, uA⟩
  go_wp2_with fail
  refine (awake_any _ ((unhide HT).up (U8.tr (u9.tr uA)))).mono ?_
  rintro e wB ⟨rfl, uB⟩
  go_wp2_with fail
  go_ret
  exact ⟨rfl, U8.tr (u9.tr (uA.tr uB))⟩

end Go.Proofs.YtdiacbfdfoeemaaDoor
