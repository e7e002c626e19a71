/-
  What is proved here: package value's Take of things that go round: never whole.
-/
import Derived.Test.YtenkidbimhmkbaaVChT
namespace Go.Proofs.Ytenkidbimhmkbaa
open Go Go.RowKit

set_option maxRecDepth 20000 in
set_option maxHeartbeats 4000000 in
theorem listT_no (w : World) (tb : Nat) (x : Nat) (d : Int) (hd : 0 ≤ d) (hd2 : d ≤ 100)
    (KC : ∀ w1, Fr (fun _ => False) w w1 → Calls Try.prog 133 #[.pointer (some ⟨tb, 0, none⟩), .int .i64 (d + 1), .int .u64 (x : Int)] w1 fun e w' => e = .returned (.tuple #[.slice none 0 0, .int .u64 0, .bool false]) ∧ Fr (fun j => j = tb) w1 w') (htl : tb < w.heap.size) :
    Calls Try.prog 112 #[.pointer (some ⟨tb, 0, none⟩), .int .i64 d, .int .u64 (x : Int)] w fun e w' => e = .returned (.tuple #[.agg #[.int .i64 0, .int .i64 0, .bool false, .slice none 0 0, .string ⟨#[]⟩, .slice none 0 0, .slice none 0 0], .bool false]) ∧ Fr (fun j => j = tb) w w' := by
  have HC := hide KC
  clear KC
  go_enter Try.func112, Try.ntmps112
  go_wp2_with (go_at_call 133; refine (HC.out _ ((Fr.refl _ w).alloc _)).mono ?_; rintro e w2 ⟨rfl, F2⟩; have b2 : w2.heap[w.heap.size]? = some (.cells zeroD 73 (0, 0)) := (F2.block _ (by simp) (by omega)).trans (heap_alloc_new w _); obtain ⟨d0, d1, d2, d3, d4, d5, d6⟩ := cells7 b2; obtain ⟨z0, z1, z2, z3, z4, z5, z6⟩ := frozen7 b2; have HB2 := hide b2; have HF2 : Hid (Fr (fun j => j = tb) w w2) := hide (Fr.trans ((Fr.refl _ w).alloc _) F2 (fun _ _ e => e)); clear F2 b2)
  obtain ⟨b3, F3⟩ := stoF7 HB2.out (.int .i64 0) (.int .i64 0) (.bool false) (.slice none 0 0) (.string ⟨#[]⟩) (.slice none 0 0) (.slice none 0 0)
  clear d0 d1 d2 d3 d4 d5 d6 z0 z1 z2 z3 z4 z5 z6
  generalize (((((((w2.setCell ⟨w.heap.size, 0, none⟩ (.int .i64 0)).setCell ⟨w.heap.size, 1, none⟩ (.int .i64 0)).setCell ⟨w.heap.size, 2, none⟩ (.bool false)).setCell ⟨w.heap.size, 3, none⟩ (.slice none 0 0)).setCell ⟨w.heap.size, 4, none⟩ (.string ⟨#[]⟩)).setCell ⟨w.heap.size, 5, none⟩ (.slice none 0 0)).setCell ⟨w.heap.size, 6, none⟩ (.slice none 0 0)) = wf at *
  obtain ⟨d0, d1, d2, d3, d4, d5, d6⟩ := cells7 b3
  refine bodyPost_ret (by simp [results, Try.results112, go_sem, d0, d1, d2, d3, d4, d5, d6]; rfl) rfl ?_
  exact ⟨rfl, Fr.trans HF2.out F3 (fun k hk e => by omega)⟩

set_option maxRecDepth 20000 in
set_option maxHeartbeats 4000000 in
/-- A pair whose list may not be told. -/
theorem datumP_no (w : World) (tb sb hb : Nat) (X : Nat → Prop) (sz : Nat) (tm : Int) (n : Nat) (f : Nat → Nat) (st : Nat → Bool) (x : Nat) (d s : Int) (h : HeapAt w hb X sz tm n f st) (hS : w.cell? ⟨sb, 0, none⟩ = some (.pointer (some ⟨hb, 0, none⟩))) (hT : TakAt w tb sb s) (htX : ¬ X tb) (hts : tb ≠ sb) (hx : x < 18446744073709551616) (hd : d ≤ 100) (hs0 : 0 < s) (hs1 : s ≤ 20000)
    (hp : shapeB (headOf f st x) 1 2 0 = true) (KL : ∀ w1, Fr (fun j => j = tb) w w1 → TakAt w1 tb sb (s - 1) → Calls Try.prog 112 #[.pointer (some ⟨tb, 0, none⟩), .int .i64 d, .int .u64 (x : Int)] w1 fun e w' => e = .returned (.tuple #[.agg #[.int .i64 0, .int .i64 0, .bool false, .slice none 0 0, .string ⟨#[]⟩, .slice none 0 0, .slice none 0 0], .bool false]) ∧ Fr (fun j => j = tb) w1 w') :
    Calls Try.prog 78 #[.pointer (some ⟨tb, 0, none⟩), .int .i64 d, .int .u64 (x : Int)] w fun e w' => e = .returned (.tuple #[.agg #[.int .i64 0, .int .i64 0, .bool false, .slice none 0 0, .string ⟨#[]⟩, .slice none 0 0, .slice none 0 0], .bool false]) ∧ Fr (fun j => j = tb) w w' := by
  have hsl : sb < w.heap.size := World.block_lt_of_cell? _ _ hS
  have htl : tb < w.heap.size := (Array.getElem?_eq_some_iff.1 hT).1
  have c0 := cell_of_row w tb 0 _ _ _ hT
  have c1 := cell_of_row w tb 1 _ _ _ hT
  have fz := frozen_of_row w tb 1 _ _ hT
  have F1 : Fr (fun k => k = tb) w (w.setCell ⟨tb, 1, none⟩ (.int .i64 (s - 1))) := Fr.setCell (S := fun k => k = tb) (Fr.refl _ _) (fun _ => rfl) _ _
  have s1 : (w.setCell ⟨tb, 1, none⟩ (.int .i64 (s - 1))).heap.size = w.heap.size := by simp [World.setCell]
  have T0 : TakAt (w.setCell ⟨tb, 1, none⟩ (.int .i64 (s - 1))) tb sb (s - 1) := heap_setCell_same w tb 1 _ _ _ hT
  obtain ⟨W1, hW1⟩ : ∃ W1, W1 = (w.setCell ⟨tb, 1, none⟩ (.int .i64 (s - 1))).alloc (.cells #[.int .i64 0, .int .i64 0, .bool false, .slice none 0 0, .string ⟨#[]⟩, .slice none 0 0, .slice none 0 0] 73) := ⟨_, rfl⟩
  have F2 : Fr (fun _ => False) (w.setCell ⟨tb, 1, none⟩ (.int .i64 (s - 1))) W1 := by rw [hW1]; exact (Fr.refl _ _).alloc _
  have B1 : W1.heap[w.heap.size]? = some (.cells #[.int .i64 0, .int .i64 0, .bool false, .slice none 0 0, .string ⟨#[]⟩, .slice none 0 0, .slice none 0 0] 73 (0, 0)) := by rw [hW1, ← s1]; exact heap_alloc_new _ _
  have T1 : TakAt W1 tb sb (s - 1) := (F2.block tb (by omega) (fun e => e)).trans T0
  have FW : Fr (fun k => k = tb) w W1 := Fr.trans F1 F2 (fun _ _ e => e.elim)
  have e0 := cell_of_row W1 tb 0 _ _ _ T1
  have i0 := e0
  rw [hW1] at i0
  have H1 := h.fr FW (fun k hk e => htX (e ▸ hk))
  have S1 := (FW.cell (o := 0) hsl (fun e => hts e.symm)).trans hS
  have KP := isPair_any W1 sb hb X sz tm n f st x H1 S1 hx
  rw [hp] at KP
  have K5 := fun q => KL (W1.drewN q) (FW.drewN q) T1
  have hdI : ¬ (100 < d) := by omega
  have hsI : ¬ (s ≤ 0) := by omega
  have HP := hide KP
  have H5 := hide K5
  have HT1 := hide T1
  have HB1 := hide B1
  have HFW := hide FW
  have HW1 := hide hW1
  clear KP K5 KL T1 B1 FW F1 F2 H1 S1 h hS hT hW1 T0 hp
  go_enter Try.func78, Try.ntmps78
  go_wp2_with fail
  rw [← HW1.out]
  clear c0 c1 i0 fz s1
  go_wp2_with (first
    | (go_at_call 111; refine HP.out.mono ?_; rintro e w2 ⟨rfl, q2, rfl⟩)
    | (go_at_call 112; refine (H5.out _).mono ?_; rintro e w5 ⟨rfl, F5⟩; have F5' : Fr (fun j => j = tb) W1 w5 := Fr.trans ((Fr.refl _ W1).drewN _) F5 (fun _ _ e => e); have b2 := (F5'.block _ (Array.getElem?_eq_some_iff.1 HB1.out).1 (by omega)).trans HB1.out; obtain ⟨d0, d1, d2, d3, d4, d5, d6⟩ := cells7 b2; obtain ⟨z0, z1, z2, z3, z4, z5, z6⟩ := frozen7 b2; have HB2 := hide b2; have HF5 := hide F5'; clear F5 F5' b2))
  obtain ⟨b3, F3⟩ := stoF7 HB2.out (.int .i64 0) (.int .i64 0) (.bool false) (.slice none 0 0) (.string ⟨#[]⟩) (.slice none 0 0) (.slice none 0 0)
  clear d0 d1 d2 d3 d4 d5 d6 z0 z1 z2 z3 z4 z5 z6
  generalize (((((((w5.setCell ⟨w.heap.size, 0, none⟩ (.int .i64 0)).setCell ⟨w.heap.size, 1, none⟩ (.int .i64 0)).setCell ⟨w.heap.size, 2, none⟩ (.bool false)).setCell ⟨w.heap.size, 3, none⟩ (.slice none 0 0)).setCell ⟨w.heap.size, 4, none⟩ (.string ⟨#[]⟩)).setCell ⟨w.heap.size, 5, none⟩ (.slice none 0 0)).setCell ⟨w.heap.size, 6, none⟩ (.slice none 0 0)) = wf at *
  obtain ⟨d0, d1, d2, d3, d4, d5, d6⟩ := cells7 b3
  refine bodyPost_ret (by simp [results, Try.results78, go_sem, d0, d1, d2, d3, d4, d5, d6]; rfl) rfl ?_
  exact ⟨rfl, Fr.trans (Fr.trans HFW.out HF5.out (fun _ _ e => e)) F3 (fun k hk e => by omega)⟩

set_option maxRecDepth 20000 in
set_option maxHeartbeats 4000000 in
theorem take_no (w : World) (sb : Nat) (x : Nat)
    (KD : ∀ w1, Fr (fun _ => False) w w1 → TakAt w1 (w.heap.size + 1) sb 20000 → Calls Try.prog 78 #[.pointer (some ⟨w.heap.size + 1, 0, none⟩), .int .i64 1, .int .u64 (x : Int)] w1 fun e w' => e = .returned (.tuple #[.agg #[.int .i64 0, .int .i64 0, .bool false, .slice none 0 0, .string ⟨#[]⟩, .slice none 0 0, .slice none 0 0], .bool false]) ∧ Fr (fun j => j = w.heap.size + 1) w1 w') :
    Calls Try.prog 36 #[.pointer (some ⟨sb, 0, none⟩), .int .u64 (x : Int), .int .i64 20000] w fun e w' => e = .returned (.tuple #[.agg #[.int .i64 0, .int .i64 0, .bool false, .slice none 0 0, .string ⟨#[]⟩, .slice none 0 0, .slice none 0 0], .bool false]) ∧ Fr (fun _ => False) w w' := by
  obtain ⟨W1, hW1⟩ : ∃ W1, W1 = (w.alloc (.cells #[.int .i64 0, .int .i64 0, .bool false, .slice none 0 0, .string ⟨#[]⟩, .slice none 0 0, .slice none 0 0] 73)).alloc (.cells #[.pointer (some ⟨sb, 0, none⟩), .int .i64 20000] 126) := ⟨_, rfl⟩
  have F1 : Fr (fun _ => False) w W1 := by rw [hW1]; exact ((Fr.refl _ w).alloc _).alloc _
  have B1 : W1.heap[w.heap.size]? = some (.cells #[.int .i64 0, .int .i64 0, .bool false, .slice none 0 0, .string ⟨#[]⟩, .slice none 0 0, .slice none 0 0] 73 (0, 0)) := by
    rw [hW1]
    exact (heap_alloc_old _ _ (r := w.heap.size) (by simp)).trans (heap_alloc_new w _)
  have T1 : TakAt W1 (w.heap.size + 1) sb 20000 := by
    rw [hW1]
    have := heap_alloc_new (w.alloc (.cells #[.int .i64 0, .int .i64 0, .bool false, .slice none 0 0, .string ⟨#[]⟩, .slice none 0 0, .slice none 0 0] 73)) (.cells #[.pointer (some ⟨sb, 0, none⟩), .int .i64 20000] 126)
    rw [World.size_alloc] at this
    exact this
  have K := KD W1 F1 T1
  have HK := hide K
  have HB1 := hide B1
  have HF1 := hide F1
  have HW1 := hide hW1
  clear K KD B1 F1 T1 hW1
  go_enter Try.func36, Try.ntmps36
  go_wp2_with fail
  rw [← HW1.out]
  go_wp2_with (go_at_call 78; refine HK.out.mono ?_; rintro e w5 ⟨rfl, F5⟩; have b2 := (F5.block _ (Array.getElem?_eq_some_iff.1 HB1.out).1 (by omega)).trans HB1.out; obtain ⟨d0, d1, d2, d3, d4, d5, d6⟩ := cells7 b2; obtain ⟨z0, z1, z2, z3, z4, z5, z6⟩ := frozen7 b2; have HB2 := hide b2; have HF5 := hide F5; clear F5 b2)
  obtain ⟨b3, F3⟩ := stoF7 HB2.out (.int .i64 0) (.int .i64 0) (.bool false) (.slice none 0 0) (.string ⟨#[]⟩) (.slice none 0 0) (.slice none 0 0)
  clear d0 d1 d2 d3 d4 d5 d6 z0 z1 z2 z3 z4 z5 z6
  generalize (((((((w5.setCell ⟨w.heap.size, 0, none⟩ (.int .i64 0)).setCell ⟨w.heap.size, 1, none⟩ (.int .i64 0)).setCell ⟨w.heap.size, 2, none⟩ (.bool false)).setCell ⟨w.heap.size, 3, none⟩ (.slice none 0 0)).setCell ⟨w.heap.size, 4, none⟩ (.string ⟨#[]⟩)).setCell ⟨w.heap.size, 5, none⟩ (.slice none 0 0)).setCell ⟨w.heap.size, 6, none⟩ (.slice none 0 0)) = wf at *
  obtain ⟨d0, d1, d2, d3, d4, d5, d6⟩ := cells7 b3
  refine bodyPost_ret (by simp [results, Try.results36, go_sem, d0, d1, d2, d3, d4, d5, d6]; rfl) rfl ?_
  exact ⟨rfl, Fr.trans (Fr.trans HF1.out HF5.out (fun k hk e => by omega)) F3 (fun k hk e => by omega)⟩

/-- A chain that goes on for ever is never told whole. -/
theorem take_ring (w : World) (sb hb : Nat) (X : Nat → Prop) (sz : Nat) (tm : Int) (n : Nat) (f : Nat → Nat) (st : Nat → Bool) (u c : Nat → Nat) (z : Nat → Int) (h : HeapAt w hb X sz tm n f st) (hS : w.cell? ⟨sb, 0, none⟩ = some (.pointer (some ⟨hb, 0, none⟩))) (hf : Follows f st u c z 20000) :
    Calls Try.prog 36 #[.pointer (some ⟨sb, 0, none⟩), .int .u64 (u 0 : Int), .int .i64 20000] w fun e w' => e = .returned (.tuple #[.agg #[.int .i64 0, .int .i64 0, .bool false, .slice none 0 0, .string ⟨#[]⟩, .slice none 0 0, .slice none 0 0], .bool false]) ∧ Fr (fun _ => False) w w' := by
  have hsl : sb < w.heap.size := World.block_lt_of_cell? _ _ hS
  have hX : ¬ X (w.heap.size + 1) := fun e => by have := h.lt e; omega
  refine take_no w sb (u 0) fun w1 F1 T1 => ?_
  refine datumP_no w1 (w.heap.size + 1) sb hb X sz tm n f st (u 0) 1 20000 (h.fr F1 (fun _ _ e => e)) ((F1.cell hsl (fun e => e)).trans hS) T1 hX (by omega) (hf.lt 0) (by decide) (by decide) (by decide) (hf.pair 0 (by decide)) fun w2 F2 T2 => ?_
  have htl : w.heap.size + 1 < w1.heap.size := (Array.getElem?_eq_some_iff.1 T1).1
  have h2 := h.fr (Fr.trans (F1.mono fun _ _ e => e.elim : Fr (fun j => j = w.heap.size + 1) w w1) F2 (fun _ _ e => e)) (fun k hk e => hX (e ▸ hk))
  have s2 := (F2.cell (o := 0) (b := sb) (by omega) (by omega)).trans ((F1.cell hsl (fun e => e)).trans hS)
  refine listT_no w2 (w.heap.size + 1) (u 0) 1 (by decide) (by decide) (fun w3 F3 => ?_) (Nat.lt_of_lt_of_le htl F2.size)
  have l2 := (Array.getElem?_eq_some_iff.1 T2).1
  exact chainT_ring w3 (w.heap.size + 1) sb hb X sz tm n f st (1 + 1) 19999 19999 u c z (h2.fr F3 (fun _ _ e => e)) ((F3.cell (World.block_lt_of_cell? _ _ s2) (fun e => e)).trans s2) ((F3.block _ l2 (fun e => e)).trans T2) hX (by omega) (by decide) (by decide) ⟨fun k hk => hf.pair k (by omega), fun k hk => hf.car k (by omega), fun k hk => hf.cdr k (by omega), hf.lt, hf.clt, hf.fix, hf.val⟩ rfl (hf.pair 19999 (by decide)) (hf.car 19999 (by decide))

end Go.Proofs.Ytenkidbimhmkbaa
