/-
  What is proved here: package value's Num, simple and datum of a fixnum.
-/
import Derived.Test.YtchdfenickjiiaaVOf
import Derived.Test.YtchdfenickjiiaaVTakeT2
namespace Go.Proofs.Ytchdfenickjiiaa
open Go Go.RowKit

theorem intW_range {x : Nat} (_h : x < 18446744073709551616) : -2305843009213693952 ≤ intW x ∧ intW x ≤ 2305843009213693951 := by
  unfold intW wrap64
  omega

set_option maxRecDepth 20000 in
set_option maxHeartbeats 4000000 in
theorem num_fix (w : World) (sb x : Nat) (z : Int) (hx : x < 18446744073709551616) (h4 : x % 4 = 1) (hz : z = intW x) :
    Calls Try.prog 27 #[.pointer (some ⟨sb, 0, none⟩), .int .u64 (x : Int)] w fun e w' => ∃ L, e = .returned (.tuple #[.agg #[.bool (decide (z < 0)), .slice (some ⟨L, 0, none⟩) (lenZ z) 2], .bool true]) ∧ Limbs w' L z ∧ w.heap.size < L ∧ Fr (fun _ => False) w w' := by
  have KI := fun w1 => vint_any x w1 hx
  rw [if_pos h4, ← hz] at KI
  have hr := intW_range hx
  rw [← hz] at hr
  have KO := fun w1 => vof_any z w1 hr.1 hr.2
  have HO := hide KO
  clear KO hz
  go_enter Try.func27, Try.ntmps27
  go_wp2_with (first
    | (go_at_call 12; refine (KI _).mono ?_; rintro e w1 ⟨rfl, hw⟩; replace hw := hw.symm; subst hw)
    | (go_at_call 69; refine (HO.out _).mono ?_; rintro e w2 ⟨L, rfl, L2, LL, F2⟩; have b2 : w2.heap[w.heap.size]? = some (.cells #[.bool false, .slice none 0 0] 45 (0, 0)) := (F2.block _ (by simp) (fun e => e)).trans (heap_alloc_new w _); obtain ⟨z0, z1, d0, d1⟩ := fz2 b2; have HB2 := hide b2; have HL2 := hide L2; have HLL : Hid (w.heap.size + 1 < L) := hide (by simpa using LL); have HF2 : Hid (Fr (fun _ => False) w w2) := hide (Fr.trans ((Fr.refl _ w).alloc _) F2 (fun _ _ e => e)); clear L2 LL F2 b2))
  obtain ⟨b4, F4⟩ := stoF2 HB2.out (.bool (decide (z < 0))) (.slice (some ⟨L, 0, none⟩) (lenZ z) 2)
  clear z0 z1 d0 d1
  generalize ((w2.setCell ⟨w.heap.size, 0, none⟩ (.bool (decide (z < 0)))).setCell ⟨w.heap.size, 1, none⟩ (.slice (some ⟨L, 0, none⟩) (lenZ z) 2)) = wf at *
  have zz := fz2 b4
  refine bodyPost_ret (by simp [results, Try.results27, go_sem, zz.2.2.1, zz.2.2.2]; rfl) rfl ?_
  have hLL := HLL.out
  exact ⟨L, rfl, (F4.block _ (Array.getElem?_eq_some_iff.1 HL2.out).1 (by omega)).trans HL2.out, by omega, Fr.trans HF2.out F4 (fun k hk e => by omega)⟩

set_option maxRecDepth 20000 in
set_option maxHeartbeats 4000000 in
theorem simple_fix (w : World) (sb x : Nat) (z : Int) (hx : x < 18446744073709551616) (h4 : x % 4 = 1) (hz : z = intW x) :
    Calls Try.prog 117 #[.pointer (some ⟨sb, 0, none⟩), .int .u64 (x : Int)] w fun e w' => ∃ L, e = .returned (.agg #[.int .i64 1, .int .i64 0, .bool (decide (z < 0)), .slice (some ⟨L, 0, none⟩) (lenZ z) 2, .string ⟨#[]⟩, .slice none 0 0, .slice none 0 0]) ∧ Limbs w' L z ∧ w.heap.size < L ∧ Fr (fun _ => False) w w' := by
  have KN := fun w1 => num_fix w1 sb x z hx h4 hz
  have HN := hide KN
  clear KN hz
  go_enter Try.func117, Try.ntmps117
  go_wp2_with (go_at_call 27; refine (HN.out _).mono ?_; rintro e w2 ⟨L, rfl, L2, LL, F2⟩; have FA := F2.alloc (.cells #[.bool (decide (z < 0)), .slice (some ⟨L, 0, none⟩) (lenZ z) 2] 45); have b2 : (w2.alloc (.cells #[.bool (decide (z < 0)), .slice (some ⟨L, 0, none⟩) (lenZ z) 2] 45)).heap[w.heap.size]? = some (.cells zeroD 73 (0, 0)) := (FA.block _ (by simp) (fun e => e)).trans (heap_alloc_new w _); obtain ⟨d0, d1, d2, d3, d4, d5, d6⟩ := cells7 b2; obtain ⟨z0, z1, z2, z3, z4, z5, z6⟩ := frozen7 b2; have HB2 := hide b2; have HL2 := hide L2; have HLL : Hid (w.heap.size + 1 < L) := hide (by simpa using LL); have HFA : Hid (Fr (fun _ => False) w (w2.alloc (.cells #[.bool (decide (z < 0)), .slice (some ⟨L, 0, none⟩) (lenZ z) 2] 45))) := hide (Fr.trans ((Fr.refl _ w).alloc _) FA (fun _ _ e => e)); clear L2 LL F2 b2 FA)
  obtain ⟨b3, F3⟩ := stoF7 HB2.out (.int .i64 1) (.int .i64 0) (.bool (decide (z < 0))) (.slice (some ⟨L, 0, none⟩) (lenZ z) 2) (.string ⟨#[]⟩) (.slice none 0 0) (.slice none 0 0)
  clear d0 d1 d2 d3 d4 d5 d6 z0 z1 z2 z3 z4 z5 z6
  have HLa : Hid (Limbs (w2.alloc (.cells #[.bool (decide (z < 0)), .slice (some ⟨L, 0, none⟩) (lenZ z) 2] 45)) L z) := hide ((((Fr.refl (fun _ => False) w2).alloc _).block L (Array.getElem?_eq_some_iff.1 HL2.out).1 (fun e => e)).trans HL2.out)
  generalize w2.alloc (.cells #[.bool (decide (z < 0)), .slice (some ⟨L, 0, none⟩) (lenZ z) 2] 45) = w3 at *
  generalize (((((((w3.setCell ⟨w.heap.size, 0, none⟩ (.int .i64 1)).setCell ⟨w.heap.size, 1, none⟩ (.int .i64 0)).setCell ⟨w.heap.size, 2, none⟩ (.bool (decide (z < 0)))).setCell ⟨w.heap.size, 3, none⟩ (.slice (some ⟨L, 0, none⟩) (lenZ z) 2)).setCell ⟨w.heap.size, 4, none⟩ (.string ⟨#[]⟩)).setCell ⟨w.heap.size, 5, none⟩ (.slice none 0 0)).setCell ⟨w.heap.size, 6, none⟩ (.slice none 0 0)) = wf at *
  obtain ⟨d0, d1, d2, d3, d4, d5, d6⟩ := cells7 b3
  refine bodyPost_ret (by simp [results, Try.results117, go_sem, d0, d1, d2, d3, d4, d5, d6]; rfl) rfl ?_
  have hLL := HLL.out
  exact ⟨L, rfl, (F3.block L (Array.getElem?_eq_some_iff.1 HLa.out).1 (by omega)).trans HLa.out, by omega, Fr.trans HFA.out F3 (fun k hk e => by omega)⟩

set_option maxRecDepth 20000 in
set_option maxHeartbeats 4000000 in
/-- The datum of a fixnum. -/
theorem datum_fix (w : World) (tb sb hb : Nat) (X : Nat → Prop) (sz : Nat) (tm : Int) (n : Nat) (f : Nat → Nat) (st : Nat → Bool) (x : Nat) (d s z : Int) (h : HeapAt w hb X sz tm n f st) (hS : w.cell? ⟨sb, 0, none⟩ = some (.pointer (some ⟨hb, 0, none⟩))) (hT : TakAt w tb sb s) (htX : ¬ X tb) (hts : tb ≠ sb) (hx : x < 18446744073709551616) (hd : d ≤ 100) (hs0 : 0 < s) (hs1 : s ≤ 20000)
    (h4 : x % 4 = 1) (hz : z = intW x) :
    Calls Try.prog 78 #[.pointer (some ⟨tb, 0, none⟩), .int .i64 d, .int .u64 (x : Int)] w fun e w' => ∃ L, e = .returned (.tuple #[.agg #[.int .i64 1, .int .i64 0, .bool (decide (z < 0)), .slice (some ⟨L, 0, none⟩) (lenZ z) 2, .string ⟨#[]⟩, .slice none 0 0, .slice none 0 0], .bool true]) ∧ Limbs w' L z ∧ w.heap.size < L ∧ TakAt w' tb sb (s - 1) ∧ Fr (fun k => k = tb) w w' := by
  have hsl : sb < w.heap.size := World.block_lt_of_cell? _ _ hS
  have h0 : headOf f st x = 0 := headOf_no (by unfold isPtr; simp; omega)
  have n1 : shapeB (headOf f st x) 1 2 0 = false := by rw [h0]; rfl
  have n2 : shapeB (headOf f st x) 2 (hTag (headOf f st x) : Int) 0 = false := by rw [h0]; rfl
  have n3 : shapeB (headOf f st x) 9 3 0 = false := by rw [h0]; rfl
  have htl : tb < w.heap.size := (Array.getElem?_eq_some_iff.1 hT).1
  have c0 := cell_of_row w tb 0 _ _ _ hT
  have c1 := cell_of_row w tb 1 _ _ _ hT
  have fz := frozen_of_row w tb 1 _ _ hT
  have F1 : Fr (fun k => k = tb) w (w.setCell ⟨tb, 1, none⟩ (.int .i64 (s - 1))) := Fr.setCell (S := fun k => k = tb) (Fr.refl _ _) (fun _ => rfl) _ _
  have s1 : (w.setCell ⟨tb, 1, none⟩ (.int .i64 (s - 1))).heap.size = w.heap.size := by simp [World.setCell]
  have T0 : TakAt (w.setCell ⟨tb, 1, none⟩ (.int .i64 (s - 1))) tb sb (s - 1) := heap_setCell_same w tb 1 _ _ _ hT
  obtain ⟨W1, hW1⟩ : ∃ W1, W1 = (w.setCell ⟨tb, 1, none⟩ (.int .i64 (s - 1))).alloc (.cells #[.int .i64 0, .int .i64 0, .bool false, .slice none 0 0, .string ⟨#[]⟩, .slice none 0 0, .slice none 0 0] 73) := ⟨_, rfl⟩
  have F2 : Fr (fun _ => False) (w.setCell ⟨tb, 1, none⟩ (.int .i64 (s - 1))) W1 := by rw [hW1]; exact (Fr.refl _ _).alloc _
  have B1 : W1.heap[w.heap.size]? = some (.cells #[.int .i64 0, .int .i64 0, .bool false, .slice none 0 0, .string ⟨#[]⟩, .slice none 0 0, .slice none 0 0] 73 (0, 0)) := by rw [hW1, ← s1]; exact heap_alloc_new _ _
  have T1 : TakAt W1 tb sb (s - 1) := (F2.block tb (by omega) (fun e => e)).trans T0
  have FW : Fr (fun k => k = tb) w W1 := Fr.trans F1 F2 (fun _ _ e => e.elim)
  have e0 := cell_of_row W1 tb 0 _ _ _ T1
  have i0 := e0
  rw [hW1] at i0
  have H1 := h.fr FW (fun k hk e => htX (e ▸ hk))
  have S1 := (FW.cell (o := 0) hsl (fun e => hts e.symm)).trans hS
  have KP := isPair_any W1 sb hb X sz tm n f st x H1 S1 hx
  rw [n1] at KP
  have KV := fun q => isVec_any (W1.drewN q) sb hb X sz tm n f st x (H1.drewN q) S1 hx
  rw [n2] at KV
  have KC := fun q => isCond_any (W1.drewN q) sb hb X sz tm n f st x (H1.drewN q) S1 hx
  rw [n3] at KC
  have K5 := fun q => simple_fix (W1.drewN q) sb x z hx h4 hz
  have hdI : ¬ (100 < d) := by omega
  have hsI : ¬ (s ≤ 0) := by omega
  have HP := hide KP
  have HV := hide KV
  have HC := hide KC
  have H5 := hide K5
  have HT1 := hide T1
  have HB1 := hide B1
  have HFW := hide FW
  have HW1 := hide hW1
  clear KP KV KC K5 T1 B1 FW F1 F2 H1 S1 h hS hT hW1 T0 n1 n2 n3 h0 hz
  go_enter Try.func78, Try.ntmps78
  go_wp2_with fail
  rw [← HW1.out]
  clear c0 c1 i0 fz s1
  go_wp2_with (first
    | (go_at_call 111; refine HP.out.mono ?_; rintro e w2 ⟨rfl, q2, rfl⟩)
    | (go_at_call 113; refine (HV.out _).mono ?_; rintro e w3 ⟨rfl, q3, hq3⟩; replace hq3 : w3 = W1.drewN (q2 + q3) := (by rw [hq3]; simp); subst hq3)
    | (go_at_call 115; refine (HC.out _).mono ?_; rintro e w4 ⟨rfl, q4, hq4⟩; replace hq4 : w4 = W1.drewN (q2 + q3 + q4) := (by rw [hq4]; simp); subst hq4)
    | (go_at_call 117; refine (H5.out _).mono ?_; rintro e w5 ⟨L, rfl, L5, LL, F5⟩; have HL5 := hide L5; have HLL : Hid (W1.heap.size < L) := hide LL; have F5' : Fr (fun _ => False) W1 w5 := Fr.trans ((Fr.refl _ W1).drewN _) F5 (fun _ _ e => e); have b2 := (F5'.block _ (Array.getElem?_eq_some_iff.1 HB1.out).1 (fun e => e)).trans HB1.out; obtain ⟨d0, d1, d2, d3, d4, d5, d6⟩ := cells7 b2; obtain ⟨z0, z1, z2, z3, z4, z5, z6⟩ := frozen7 b2; have HB2 := hide b2; have HF5 := hide F5'; clear F5 F5' b2 L5 LL))
  obtain ⟨b3, F3⟩ := stoF7 HB2.out (.int .i64 1) (.int .i64 0) (.bool (decide (z < 0))) (.slice (some ⟨L, 0, none⟩) (lenZ z) 2) (.string ⟨#[]⟩) (.slice none 0 0) (.slice none 0 0)
  clear d0 d1 d2 d3 d4 d5 d6 z0 z1 z2 z3 z4 z5 z6
  generalize (((((((w5.setCell ⟨w.heap.size, 0, none⟩ (.int .i64 1)).setCell ⟨w.heap.size, 1, none⟩ (.int .i64 0)).setCell ⟨w.heap.size, 2, none⟩ (.bool (decide (z < 0)))).setCell ⟨w.heap.size, 3, none⟩ (.slice (some ⟨L, 0, none⟩) (lenZ z) 2)).setCell ⟨w.heap.size, 4, none⟩ (.string ⟨#[]⟩)).setCell ⟨w.heap.size, 5, none⟩ (.slice none 0 0)).setCell ⟨w.heap.size, 6, none⟩ (.slice none 0 0)) = wf at *
  obtain ⟨d0, d1, d2, d3, d4, d5, d6⟩ := cells7 b3
  refine bodyPost_ret (by simp [results, Try.results78, go_sem, d0, d1, d2, d3, d4, d5, d6]; rfl) rfl ?_
  have ht1 : tb < W1.heap.size := (Array.getElem?_eq_some_iff.1 HT1.out).1
  have l5 := HF5.out.size
  have hLL := HLL.out
  have hsw := HFW.out.size
  have hlL := (Array.getElem?_eq_some_iff.1 HL5.out).1
  have hbl := (Array.getElem?_eq_some_iff.1 HB1.out).1
  exact ⟨L, rfl, (F3.block L hlL (by omega)).trans HL5.out, by omega, (F3.block tb (by omega) (by omega)).trans ((HF5.out.block tb ht1 (fun e => e)).trans HT1.out), Fr.trans (Fr.trans HFW.out HF5.out (fun _ _ e => e.elim)) F3 (fun k hk e => by omega)⟩

end Go.Proofs.Ytchdfenickjiiaa
