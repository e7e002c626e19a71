/-
  What is proved here: tandemlaw02.NumTexts answers true for all numbers and texts of up to 2^20 limbs and bytes.
-/
import Derived.Test.YtdiacbfdfoeemaaDoorR2Text
import Derived.Test.YtdiacbfdfoeemaaDoorR2Parse
namespace Go.Proofs.YtdiacbfdfoeemaaDoor
open Go Go.RowKit

/-! Short names, for the text's length. -/
theorem pz0 (b : Bool) : (b || false) = b := Bool.or_false b
theorem pz1 (b : Bool) : (false || b) = b := Bool.false_or b
theorem pz2 (b : Bool) : (b || true) = true := Bool.or_true b
theorem pz3 (b : Bool) : (true || b) = true := Bool.true_or b
theorem pz4 : (false = true) = False := by simp
theorem pz5 (n : Nat) : 0 + n = n := Nat.zero_add n
theorem pz6 {α : Type} {l : List α} {i : Nat} {a : α} : l.toArray.setIfInBounds i a = (l.set i a).toArray := List.setIfInBounds_toArray ..
theorem pz7 {α : Type} {x : α} {xs : List α} {a : α} : (x :: xs).set 0 a = a :: xs := rfl
theorem pz8 {α : Type} {x : α} {xs : List α} {i : Nat} {a : α} : (x :: xs).set (i + 1) a = x :: xs.set i a := rfl
theorem ntext_rd {X : Int} {M : Nat} {w : World} {a : Value} (h : RdD X M w a) (hM : 100 * (M + 1) ≤ 140737488355328) (htab : Tab w) :
    Calls Tryd.prog 44 #[a] w fun e w' => ∃ s, e = .returned (.string s) ∧ SaysZ s X ∧ Up w w' := by
  obtain ⟨b, n, f, hn, d, l, s⟩ := h
  refine (textz_any a b n f w hn d (by omega) htab).mono ?_
  rintro e w' ⟨t, rfl, u, l', k⟩
  exact ⟨t, rfl, by rw [← s]; exact k, u⟩

set_option linter.unusedSimpArgs false in
set_option maxRecDepth 60000 in
set_option maxHeartbeats 4000000 in
theorem texts_walk (s : ByteArray) (aa : Value) (ba : Bool) (na : Nat) (fa : Nat → Nat) (w : World) (haa : Nm w aa ba na fa) (hfa : ∀ i, i < na → fa i < 4294967296) (hna : na ≤ 1048576) (hs : s.size ≤ 1048576) (htab : Tab w) :
    Calls Tryd.prog 9 #[aa, .string s] w fun e w' => e = .returned (.bool true) ∧ Up w w' := by
  obtain ⟨va, rfl, hva⟩ := haa
  obtain ⟨aoa, capa, rfl, -⟩ := id hva
  obtain ⟨Xa, hXa⟩ : ∃ X, sgn ba (num 4294967296 fa na) = X := ⟨_, rfl⟩
  have Ra := hide (show RdD Xa na w (.agg #[.bool ba, .slice aoa na capa]) from ⟨ba, na, fa, ⟨_, rfl, hva⟩, hfa, Nat.le_refl _, hXa⟩)
  have HT := hide htab
  clear htab hva hfa hXa
  have K0 := hide (heap_alloc_new w (.cells #[.bool ba, .slice aoa na capa] 26))
  have U0 := up_alloc w (.cells #[.bool ba, .slice aoa na capa] 26)
  obtain ⟨bt, t, hap, hts⟩ := sapart s
  have HAP := hide hap
  clear hap
  go_enter Tryd.func9, Tryd.ntmps9
  go_wp2_with fail
  refine (parsez_all s bt t _ (unhide HAP) (by omega)).mono ?_
  rintro e w1 ⟨a1, b1, n1, f1, rfl, o1, u1, c1, l1, s1⟩
  have R1 : RdC ((zval bt t).getD 0) (t.size + 1) w1 a1 := ⟨b1, n1, f1, o1.nm, c1, l1, s1⟩
  clear o1 c1 l1 s1
  obtain ⟨bp, aop, np, capp, rfl⟩ := (R1.rd (Nat.le_refl _)).agg
  have C1 := hide R1
  clear R1
  obtain ⟨ok, hok⟩ : ∃ ok, (zval bt t).isSome = ok := ⟨_, rfl⟩
  rw [hok]
  go_wp2_with fail
  refine (r2parse_all s bt t _ (unhide HAP) (by omega)).mono ?_
  rintro e w2 ⟨a2, b2, n2, f2, rfl, o2, u2, c2, l2, s2⟩
  have R2 : RdC ((zval bt t).getD 0) (t.size + 1) w2 a2 := ⟨b2, n2, f2, o2.nm, c2, l2, s2⟩
  clear o2 c2 l2 s2
  obtain ⟨bq, aoq, nq, capq, rfl⟩ := (R2.rd (Nat.le_refl _)).agg
  have C2 := hide R2
  clear R2
  rw [hok]
  generalize (zval bt t).getD 0 = zz at *
  have T1 := Up.blk u2 (heap_alloc_new w1 (.cells #[.bool bp, .slice aop np capp] 26))
  have T2 := heap_alloc_new w2 (.cells #[.bool bq, .slice aoq nq capq] 26)
  have B2 := (up_alloc w1 (.cells #[.bool bp, .slice aop np capp] 26)).tr u2
  have B3 := up_alloc w2 (.cells #[.bool bq, .slice aoq nq capq] 26)
  have U3 := (U0.tr (u1.tr B2)).tr B3
  have K1 := hide (Up.blk (u1.tr (B2.tr B3)) (unhide K0))
  clear u1 u2 HAP hok
  go_wp2_with fail
  refine wp_region_knd (by kernel_rfl) w U3 [[], [0], [1], [], [3], [2, 4], [5], [6], [6], [7, 8, 6], [6, 9], [10], [11], [11], [12, 13, 11], [11, 14], [15], [16], [16, 17], [18]] [.val [] (fun _ g _ => g.v = .agg #[.bool ba, .slice aoa na capa]), .val [] (fun w g _ => NumD (Xa) (na) w g.lo g.hi g.v), .val [] (fun _ g _ => ∃ s, g.v = .string s ∧ SaysZ s (Xa)), .val [] (fun _ g _ => g.v = .agg #[.bool ba, .slice aoa na capa]), .val [] (fun _ g _ => ∃ s, g.v = .string s ∧ SaysZ s (Xa)), .val [] (fun _ g _ => g.v = .bool true), .val [] (fun _ g _ => g.v = .bool true), .val [] (fun _ g _ => g.v = .agg #[.bool bp, .slice aop np capp]), .val [] (fun _ g _ => g.v = .agg #[.bool bq, .slice aoq nq capq]), .val [] (fun _ g _ => g.v = .bool true), .val [] (fun _ g _ => g.v = .bool true), .val [] (fun _ g _ => g.v = .bool true), .val [] (fun _ g _ => g.v = .bool ok), .val [] (fun _ g _ => g.v = .bool ok), .val [] (fun _ g _ => g.v = .bool true), .val [] (fun _ g _ => g.v = .bool true), .val [] (fun _ g _ => g.v = .bool true), .val [] (fun _ g _ => g.v = .bool true), .val [] (fun _ g _ => g.v = .bool true), .val [] (fun _ g _ => g.v = .bool true)] (by kernel_rfl) (by kernel_rfl) rfl ⟨trivial, trivial, trivial, trivial, trivial, trivial, trivial, trivial, trivial, trivial, trivial, trivial, trivial, trivial, trivial, trivial, trivial, trivial, trivial, trivial, trivial⟩ ⟨fun _ _ _ _ _ h => h, fun _ _ _ _ hb h => h.keep hb, fun _ _ _ _ _ h => h, fun _ _ _ _ _ h => h, fun _ _ _ _ _ h => h, fun _ _ _ _ _ h => h, fun _ _ _ _ _ h => h, fun _ _ _ _ _ h => h, fun _ _ _ _ _ h => h, fun _ _ _ _ _ h => h, fun _ _ _ _ _ h => h, fun _ _ _ _ _ h => h, fun _ _ _ _ _ h => h, fun _ _ _ _ _ h => h, fun _ _ _ _ _ h => h, fun _ _ _ _ _ h => h, fun _ _ _ _ _ h => h, fun _ _ _ _ _ h => h, fun _ _ _ _ _ h => h, fun _ _ _ _ _ h => h, trivial⟩ ⟨?_, ?_, ?_, ?_, ?_, ?_, ?_, ?_, ?_, ?_, ?_, ?_, ?_, ?_, ?_, ?_, ?_, ?_, ?_, ?_, trivial⟩ ?_
  · intro x w1 K hU hS hO hd hK
    obtain ⟨k0, k1, -⟩ := cells2 ((Up.tr (up_drew _) (hS.upb rfl)).blk (unhide K1))
    clear hd
    refine ⟨?_⟩; simp only [kgoal, putsFrom, depsOf, pu0, pu1, pu2, pu3, pz0, pz1, pz2, pz3, pz4, pz5, pz6, pz7, pz8, Nat.reduceAdd, Nat.reduceBEq, ↓reduceIte, Act.put]
    go_simp
    exact hK _ _ (Up.refl _) rfl
  · intro x w1 K hU hS hO hd hK
    have h0 : (x 0).v = .agg #[.bool ba, .slice aoa na capa] := kval (hd 0 (by decide)).1 rfl
    clear hd
    refine ⟨?_⟩; simp only [kgoal, putsFrom, depsOf, pu0, pu1, pu2, pu3, pz0, pz1, pz2, pz3, pz4, pz5, pz6, pz7, pz8, Nat.reduceAdd, Nat.reduceBEq, ↓reduceIte, Act.put]
    simp only [h0]
    go_simp
    refine (c_rd (M := na) ((RdD.wide (M' := na) ((unhide Ra).up hU) (by omega))) (by omega)).mono ?_
    rintro e w2 ⟨v2, rfl, n2, u2⟩
    exact hK _ _ u2 n2
  · intro x w1 K hU hS hO hd hK
    have h1 : NumD (Xa) (na) w1 (x 1).lo (x 1).hi (x 1).v := kval (hd 1 (by decide)).1 rfl
    clear hd
    refine ⟨?_⟩; simp only [kgoal, putsFrom, depsOf, pu0, pu1, pu2, pu3, pz0, pz1, pz2, pz3, pz4, pz5, pz6, pz7, pz8, Nat.reduceAdd, Nat.reduceBEq, ↓reduceIte, Act.put]
    go_simp
    refine (ntext_rd (M := na) (h1.rd (by omega)) (by omega) ((unhide HT).up hU)).mono ?_
    rintro e w2 ⟨s2, rfl, z2, u2⟩
    exact hK _ _ u2 ⟨s2, rfl, z2⟩
  · intro x w1 K hU hS hO hd hK
    obtain ⟨k0, k1, -⟩ := cells2 ((Up.tr (up_drew _) (hS.upb rfl)).blk (unhide K1))
    clear hd
    refine ⟨?_⟩; simp only [kgoal, putsFrom, depsOf, pu0, pu1, pu2, pu3, pz0, pz1, pz2, pz3, pz4, pz5, pz6, pz7, pz8, Nat.reduceAdd, Nat.reduceBEq, ↓reduceIte, Act.put]
    go_simp
    exact hK _ _ (Up.refl _) rfl
  · intro x w1 K hU hS hO hd hK
    have h3 : (x 3).v = .agg #[.bool ba, .slice aoa na capa] := kval (hd 3 (by decide)).1 rfl
    clear hd
    refine ⟨?_⟩; simp only [kgoal, putsFrom, depsOf, pu0, pu1, pu2, pu3, pz0, pz1, pz2, pz3, pz4, pz5, pz6, pz7, pz8, Nat.reduceAdd, Nat.reduceBEq, ↓reduceIte, Act.put]
    simp only [h3]
    go_simp
    refine (r2text_rd (M := na) ((RdD.wide (M' := na) ((unhide Ra).up hU) (by omega))) (by omega)).mono ?_
    rintro e w2 ⟨s2, rfl, z2, u2⟩
    exact hK _ _ u2 ⟨s2, rfl, z2⟩
  · intro x w1 K hU hS hO hd hK
    have h2 : ∃ s, (x 2).v = .string s ∧ SaysZ s (Xa) := kval (hd 2 (by decide)).1 rfl
    have h4 : ∃ s, (x 4).v = .string s ∧ SaysZ s (Xa) := kval (hd 4 (by decide)).1 rfl
    obtain ⟨s1, e1, z1⟩ := h2
    obtain ⟨s2, e2, z2⟩ := h4
    obtain rfl := saysZ_uniq z1 z2
    clear hd
    refine ⟨?_⟩; simp only [kgoal, putsFrom, depsOf, pu0, pu1, pu2, pu3, pz0, pz1, pz2, pz3, pz4, pz5, pz6, pz7, pz8, Nat.reduceAdd, Nat.reduceBEq, ↓reduceIte, Act.put]
    simp only [e1, e2]
    go_simp
    exact hK _ _ (Up.refl _) rfl
  · intro x w1 K hU hS hO hd hK
    have h5 : (x 5).v = .bool true := kval (hd 5 (by decide)).1 rfl
    clear hd
    refine ⟨?_⟩; simp only [kgoal, putsFrom, depsOf, pu0, pu1, pu2, pu3, pz0, pz1, pz2, pz3, pz4, pz5, pz6, pz7, pz8, Nat.reduceAdd, Nat.reduceBEq, ↓reduceIte, Act.put]
    simp only [h5]
    go_simp
    exact hK _ _ (Up.refl _) rfl
  · intro x w1 K hU hS hO hd hK
    have h6 : (x 6).v = .bool true := kval (hd 6 (by decide)).1 rfl
    obtain ⟨k0, k1, -⟩ := cells2 ((Up.tr (up_drew _) (hS.upb rfl)).blk (B3.blk T1))
    clear hd
    refine ⟨?_⟩; simp only [kgoal, putsFrom, depsOf, pu0, pu1, pu2, pu3, pz0, pz1, pz2, pz3, pz4, pz5, pz6, pz7, pz8, Nat.reduceAdd, Nat.reduceBEq, ↓reduceIte, Act.put]
    simp only [h6]
    rw [if_pos (by rfl)]
    go_simp
    exact hK _ _ (Up.refl _) rfl
  · intro x w1 K hU hS hO hd hK
    have h6 : (x 6).v = .bool true := kval (hd 6 (by decide)).1 rfl
    obtain ⟨k0, k1, -⟩ := cells2 ((Up.tr (up_drew _) (hS.upb rfl)).blk T2)
    clear hd
    refine ⟨?_⟩; simp only [kgoal, putsFrom, depsOf, pu0, pu1, pu2, pu3, pz0, pz1, pz2, pz3, pz4, pz5, pz6, pz7, pz8, Nat.reduceAdd, Nat.reduceBEq, ↓reduceIte, Act.put]
    simp only [h6]
    rw [if_pos (by rfl)]
    go_simp
    exact hK _ _ (Up.refl _) rfl
  · intro x w1 K hU hS hO hd hK
    have h7 : (x 7).v = .agg #[.bool bp, .slice aop np capp] := kval (hd 7 (by decide)).1 rfl
    have h8 : (x 8).v = .agg #[.bool bq, .slice aoq nq capq] := kval (hd 8 (by decide)).1 rfl
    have h6 : (x 6).v = .bool true := kval (hd 6 (by decide)).1 rfl
    clear hd
    refine ⟨?_⟩; simp only [kgoal, putsFrom, depsOf, pu0, pu1, pu2, pu3, pz0, pz1, pz2, pz3, pz4, pz5, pz6, pz7, pz8, Nat.reduceAdd, Nat.reduceBEq, ↓reduceIte, Act.put]
    simp only [h7, h8, h6]
    rw [if_pos (by rfl)]
    go_simp
    refine (same_rd ((unhide C1).up ((B2.tr B3).tr (Up.tr (up_drew _) (hS.upb rfl)))) ((unhide C2).up (B3.tr (Up.tr (up_drew _) (hS.upb rfl)))) (rfl)).mono ?_
    rintro e w2 ⟨v2, rfl, n2, u2⟩
    exact hK _ _ u2 n2
  · intro x w1 K hU hS hO hd hK
    have h6 : (x 6).v = .bool true := kval (hd 6 (by decide)).1 rfl
    have h9 : (x 9).v = .bool true := kval (hd 9 (by decide)).1 rfl
    clear hd
    refine ⟨?_⟩; simp only [kgoal, putsFrom, depsOf, pu0, pu1, pu2, pu3, pz0, pz1, pz2, pz3, pz4, pz5, pz6, pz7, pz8, Nat.reduceAdd, Nat.reduceBEq, ↓reduceIte, Act.put]
    simp only [h6, h9]
    go_simp
    exact hK _ _ (Up.refl _) rfl
  · intro x w1 K hU hS hO hd hK
    have h10 : (x 10).v = .bool true := kval (hd 10 (by decide)).1 rfl
    clear hd
    refine ⟨?_⟩; simp only [kgoal, putsFrom, depsOf, pu0, pu1, pu2, pu3, pz0, pz1, pz2, pz3, pz4, pz5, pz6, pz7, pz8, Nat.reduceAdd, Nat.reduceBEq, ↓reduceIte, Act.put]
    simp only [h10]
    go_simp
    exact hK _ _ (Up.refl _) rfl
  · intro x w1 K hU hS hO hd hK
    have h11 : (x 11).v = .bool true := kval (hd 11 (by decide)).1 rfl
    clear hd
    refine ⟨?_⟩; simp only [kgoal, putsFrom, depsOf, pu0, pu1, pu2, pu3, pz0, pz1, pz2, pz3, pz4, pz5, pz6, pz7, pz8, Nat.reduceAdd, Nat.reduceBEq, ↓reduceIte, Act.put]
    simp only [h11]
    rw [if_pos (by rfl)]
    go_simp
    exact hK _ _ (Up.refl _) rfl
  · intro x w1 K hU hS hO hd hK
    have h11 : (x 11).v = .bool true := kval (hd 11 (by decide)).1 rfl
    clear hd
    refine ⟨?_⟩; simp only [kgoal, putsFrom, depsOf, pu0, pu1, pu2, pu3, pz0, pz1, pz2, pz3, pz4, pz5, pz6, pz7, pz8, Nat.reduceAdd, Nat.reduceBEq, ↓reduceIte, Act.put]
    simp only [h11]
    rw [if_pos (by rfl)]
    go_simp
    exact hK _ _ (Up.refl _) rfl
  · intro x w1 K hU hS hO hd hK
    have h12 : (x 12).v = .bool ok := kval (hd 12 (by decide)).1 rfl
    have h13 : (x 13).v = .bool ok := kval (hd 13 (by decide)).1 rfl
    have h11 : (x 11).v = .bool true := kval (hd 11 (by decide)).1 rfl
    clear hd
    refine ⟨?_⟩; simp only [kgoal, putsFrom, depsOf, pu0, pu1, pu2, pu3, pz0, pz1, pz2, pz3, pz4, pz5, pz6, pz7, pz8, Nat.reduceAdd, Nat.reduceBEq, ↓reduceIte, Act.put]
    simp only [h12, h13, h11]
    rw [if_pos (by rfl)]
    go_simp
    exact hK _ _ (Up.refl _) rfl
  · intro x w1 K hU hS hO hd hK
    have h11 : (x 11).v = .bool true := kval (hd 11 (by decide)).1 rfl
    have h14 : (x 14).v = .bool true := kval (hd 14 (by decide)).1 rfl
    clear hd
    refine ⟨?_⟩; simp only [kgoal, putsFrom, depsOf, pu0, pu1, pu2, pu3, pz0, pz1, pz2, pz3, pz4, pz5, pz6, pz7, pz8, Nat.reduceAdd, Nat.reduceBEq, ↓reduceIte, Act.put]
    simp only [h11, h14]
    go_simp
    exact hK _ _ (Up.refl _) rfl
  · intro x w1 K hU hS hO hd hK
    have h15 : (x 15).v = .bool true := kval (hd 15 (by decide)).1 rfl
    clear hd
    refine ⟨?_⟩; simp only [kgoal, putsFrom, depsOf, pu0, pu1, pu2, pu3, pz0, pz1, pz2, pz3, pz4, pz5, pz6, pz7, pz8, Nat.reduceAdd, Nat.reduceBEq, ↓reduceIte, Act.put]
    simp only [h15]
    go_simp
    exact hK _ _ (Up.refl _) rfl
  · intro x w1 K hU hS hO hd hK
    have h16 : (x 16).v = .bool true := kval (hd 16 (by decide)).1 rfl
    clear hd
    refine ⟨?_⟩; simp only [kgoal, putsFrom, depsOf, pu0, pu1, pu2, pu3, pz0, pz1, pz2, pz3, pz4, pz5, pz6, pz7, pz8, Nat.reduceAdd, Nat.reduceBEq, ↓reduceIte, Act.put]
    simp only [h16]
    rw [if_pos (by rfl)]
    go_simp
    refine (awake_rd ((unhide HT).up hU)).mono ?_
    rintro e w2 ⟨v2, rfl, n2, u2⟩
    exact hK _ _ u2 n2
  · intro x w1 K hU hS hO hd hK
    have h16 : (x 16).v = .bool true := kval (hd 16 (by decide)).1 rfl
    have h17 : (x 17).v = .bool true := kval (hd 17 (by decide)).1 rfl
    clear hd
    refine ⟨?_⟩; simp only [kgoal, putsFrom, depsOf, pu0, pu1, pu2, pu3, pz0, pz1, pz2, pz3, pz4, pz5, pz6, pz7, pz8, Nat.reduceAdd, Nat.reduceBEq, ↓reduceIte, Act.put]
    simp only [h16, h17]
    go_simp
    exact hK _ _ (Up.refl _) rfl
  · intro x w1 K hU hS hO hd hK
    have h18 : (x 18).v = .bool true := kval (hd 18 (by decide)).1 rfl
    clear hd
    refine ⟨?_⟩; simp only [kgoal, putsFrom, depsOf, pu0, pu1, pu2, pu3, pz0, pz1, pz2, pz3, pz4, pz5, pz6, pz7, pz8, Nat.reduceAdd, Nat.reduceBEq, ↓reduceIte, Act.put]
    simp only [h18]
    go_simp
    exact hK _ _ (Up.refl _) rfl
  intro x w1 hU hS hR hlo hdis
  have hf : (x 19).v = .bool true := kval (hR 19 (by decide)) rfl
  clear hR hlo hdis
  refine ⟨?_⟩; simp only [kgoal, putsFrom, depsOf, pu0, pu1, pu2, pu3, pz0, pz1, pz2, pz3, pz4, pz5, pz6, pz7, pz8, Nat.reduceAdd, Nat.reduceBEq, ↓reduceIte, Act.put]
  rw [hf]
  go_wp2_with fail
  go_ret
  exact ⟨rfl, hU⟩

end Go.Proofs.YtdiacbfdfoeemaaDoor
