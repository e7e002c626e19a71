/-
  What is proved here: package value's Take of a list of fixnums: told whole. package value's Take of a vector of fixnums. package value's Take of the empty list.
-/
import Derived.Test.YtenkidbimhmkbaaVTakR
namespace Go.Proofs.Ytenkidbimhmkbaa
open Go Go.RowKit

theorem Fr.like {S : Nat → Prop} {w w1 w2 : World} (h : Fr S w w1) (e1 : w2.heap = w1.heap) (e2 : w2.os = w1.os) (e3 : w2.tape = w1.tape) (e4 : w2.output = w1.output) : Fr S w w2 :=
  ⟨e2.trans h.os, e3.trans h.tape, e4.trans h.output, by rw [e1]; exact h.size, fun k hk hn => by rw [e1]; exact h.block k hk hn⟩
theorem Items.low {w w2 w1 : World} {v : Value} {k : Nat} {z : Nat → Int} (h : Items w2 w1 v k z) (hl : w.heap.size ≤ w2.heap.size) : Items w w1 v k z := by
  obtain ⟨Ls, h1, h2⟩ := h
  refine ⟨Ls, ⟨h1.1, ?_⟩, fun i hi => ⟨(h2 i hi).1, by have := (h2 i hi).2; omega⟩⟩
  rcases h1.2 with e | ⟨g, cap, cur, e1, e2, e3, e4⟩
  · exact .inl e
  · exact .inr ⟨g, cap, cur, e1, by omega, e3, e4⟩

set_option maxRecDepth 20000 in
set_option maxHeartbeats 4000000 in
theorem listT_yes (w : World) (tb : Nat) (x : Nat) (d : Int) (K : Nat) (z : Nat → Int) (hd : 0 ≤ d) (hd2 : d ≤ 100)
    (KC : ∀ w1, Fr (fun _ => False) w w1 → Calls Try.prog 133 #[.pointer (some ⟨tb, 0, none⟩), .int .i64 (d + 1), .int .u64 (x : Int)] w1 fun e w' => ∃ v, e = .returned (.tuple #[v, .int .u64 10, .bool true]) ∧ Items w1 w' v K z ∧ Fr (fun j => j = tb) w1 w') (htl : tb < w.heap.size) :
    Calls Try.prog 112 #[.pointer (some ⟨tb, 0, none⟩), .int .i64 d, .int .u64 (x : Int)] w fun e w' => ∃ v, e = .returned (.tuple #[.agg #[.int .i64 6, .int .i64 0, .bool false, .slice none 0 0, .string ⟨#[]⟩, v, .slice none 0 0], .bool true]) ∧ Items w w' v K z ∧ Fr (fun j => j = tb) w w' := by
  have HC := hide KC
  clear KC
  go_enter Try.func112, Try.ntmps112
  go_wp2_with (go_at_call 133; refine (HC.out _ ((Fr.refl _ w).alloc _)).mono ?_; rintro e w2 ⟨v, rfl, I2, F2⟩; obtain ⟨ao, cap, rfl⟩ := I2.shape; have FA := F2.alloc (.cells #[.int .i64 6, .int .i64 0, .bool false, .slice none 0 0, .string ⟨#[]⟩, .slice ao K cap, .slice none 0 0] 73); have b2 : (w2.alloc (.cells #[.int .i64 6, .int .i64 0, .bool false, .slice none 0 0, .string ⟨#[]⟩, .slice ao K cap, .slice none 0 0] 73)).heap[w.heap.size]? = some (.cells zeroD 73 (0, 0)) := (FA.block _ (by simp) (by omega)).trans (heap_alloc_new w _); obtain ⟨d0, d1, d2, d3, d4, d5, d6⟩ := cells7 b2; obtain ⟨z0, z1, z2, z3, z4, z5, z6⟩ := frozen7 b2; have HB2 := hide b2; have HI2 : Hid (Items (w.alloc (.cells zeroD 73)) (w2.alloc (.cells #[.int .i64 6, .int .i64 0, .bool false, .slice none 0 0, .string ⟨#[]⟩, .slice ao K cap, .slice none 0 0] 73)) (.slice ao K cap) K z) := hide (I2.fr ((Fr.refl (fun _ => False) w2).alloc _) (fun _ _ e => e)); have HF2 : Hid (Fr (fun j => j = tb) w (w2.alloc (.cells #[.int .i64 6, .int .i64 0, .bool false, .slice none 0 0, .string ⟨#[]⟩, .slice ao K cap, .slice none 0 0] 73))) := hide (Fr.trans ((Fr.refl _ w).alloc _) FA (fun _ _ e => e)); clear F2 FA b2 I2)
  obtain ⟨b3, F3⟩ := stoF7 HB2.out (.int .i64 6) (.int .i64 0) (.bool false) (.slice none 0 0) (.string ⟨#[]⟩) (.slice ao K cap) (.slice none 0 0)
  clear d0 d1 d2 d3 d4 d5 d6 z0 z1 z2 z3 z4 z5 z6
  generalize w2.alloc (.cells #[.int .i64 6, .int .i64 0, .bool false, .slice none 0 0, .string ⟨#[]⟩, .slice ao K cap, .slice none 0 0] 73) = w3 at *
  generalize (((((((w3.setCell ⟨w.heap.size, 0, none⟩ (.int .i64 6)).setCell ⟨w.heap.size, 1, none⟩ (.int .i64 0)).setCell ⟨w.heap.size, 2, none⟩ (.bool false)).setCell ⟨w.heap.size, 3, none⟩ (.slice none 0 0)).setCell ⟨w.heap.size, 4, none⟩ (.string ⟨#[]⟩)).setCell ⟨w.heap.size, 5, none⟩ (.slice ao K cap)).setCell ⟨w.heap.size, 6, none⟩ (.slice none 0 0)) = wf at *
  obtain ⟨d0, d1, d2, d3, d4, d5, d6⟩ := cells7 b3
  refine bodyPost_ret (by simp [results, Try.results112, go_sem, d0, d1, d2, d3, d4, d5, d6]; rfl) rfl ?_
  exact ⟨_, rfl, (HI2.out.fr F3 (fun j hj e => by simp at hj; omega)).low (by simp), Fr.trans HF2.out F3 (fun k hk e => by omega)⟩

set_option maxRecDepth 20000 in
set_option maxHeartbeats 4000000 in
/-- A pair, or a vector, whose items are told. -/
theorem datumP_yes (w : World) (tb sb hb : Nat) (X : Nat → Prop) (sz : Nat) (tm : Int) (n : Nat) (f : Nat → Nat) (st : Nat → Bool) (x : Nat) (d s : Int) (K : Nat) (z : Nat → Int) (h : HeapAt w hb X sz tm n f st) (hS : w.cell? ⟨sb, 0, none⟩ = some (.pointer (some ⟨hb, 0, none⟩))) (hT : TakAt w tb sb s) (htX : ¬ X tb) (hts : tb ≠ sb) (hx : x < 18446744073709551616) (hd : d ≤ 100) (hs0 : 0 < s) (hs1 : s ≤ 20000)
    (hp : shapeB (headOf f st x) 1 2 0 = true) (KL : ∀ w1, Fr (fun j => j = tb) w w1 → TakAt w1 tb sb (s - 1) → Calls Try.prog 112 #[.pointer (some ⟨tb, 0, none⟩), .int .i64 d, .int .u64 (x : Int)] w1 fun e w' => ∃ v, e = .returned (.tuple #[.agg #[.int .i64 6, .int .i64 0, .bool false, .slice none 0 0, .string ⟨#[]⟩, v, .slice none 0 0], .bool true]) ∧ Items w1 w' v K z ∧ Fr (fun j => j = tb) w1 w') :
    Calls Try.prog 78 #[.pointer (some ⟨tb, 0, none⟩), .int .i64 d, .int .u64 (x : Int)] w fun e w' => ∃ v, e = .returned (.tuple #[.agg #[.int .i64 6, .int .i64 0, .bool false, .slice none 0 0, .string ⟨#[]⟩, v, .slice none 0 0], .bool true]) ∧ Items w w' v K z ∧ Fr (fun j => j = tb) w w' := by
  have hsl : sb < w.heap.size := World.block_lt_of_cell? _ _ hS
  have htl : tb < w.heap.size := (Array.getElem?_eq_some_iff.1 hT).1
  have c0 := cell_of_row w tb 0 _ _ _ hT
  have c1 := cell_of_row w tb 1 _ _ _ hT
  have fz := frozen_of_row w tb 1 _ _ hT
  have F1 : Fr (fun k => k = tb) w (w.setCell ⟨tb, 1, none⟩ (.int .i64 (s - 1))) := Fr.setCell (S := fun k => k = tb) (Fr.refl _ _) (fun _ => rfl) _ _
  have s1 : (w.setCell ⟨tb, 1, none⟩ (.int .i64 (s - 1))).heap.size = w.heap.size := by simp [World.setCell]
  have T0 : TakAt (w.setCell ⟨tb, 1, none⟩ (.int .i64 (s - 1))) tb sb (s - 1) := heap_setCell_same w tb 1 _ _ _ hT
  obtain ⟨W1, hW1⟩ : ∃ W1, W1 = (w.setCell ⟨tb, 1, none⟩ (.int .i64 (s - 1))).alloc (.cells #[.int .i64 0, .int .i64 0, .bool false, .slice none 0 0, .string ⟨#[]⟩, .slice none 0 0, .slice none 0 0] 73) := ⟨_, rfl⟩
  have F2 : Fr (fun _ => False) (w.setCell ⟨tb, 1, none⟩ (.int .i64 (s - 1))) W1 := by rw [hW1]; exact (Fr.refl _ _).alloc _
  have B1 : W1.heap[w.heap.size]? = some (.cells #[.int .i64 0, .int .i64 0, .bool false, .slice none 0 0, .string ⟨#[]⟩, .slice none 0 0, .slice none 0 0] 73 (0, 0)) := by rw [hW1, ← s1]; exact heap_alloc_new _ _
  have hl1 : W1.heap.size = w.heap.size + 1 := by rw [hW1, World.size_alloc, s1]
  have T1 : TakAt W1 tb sb (s - 1) := (F2.block tb (by omega) (fun e => e)).trans T0
  have FW : Fr (fun k => k = tb) w W1 := Fr.trans F1 F2 (fun _ _ e => e.elim)
  have e0 := cell_of_row W1 tb 0 _ _ _ T1
  have i0 := e0
  rw [hW1] at i0
  have H1 := h.fr FW (fun k hk e => htX (e ▸ hk))
  have S1 := (FW.cell (o := 0) hsl (fun e => hts e.symm)).trans hS
  have KP := isPair_any W1 sb hb X sz tm n f st x H1 S1 hx
  rw [hp] at KP
  have K5 := fun q => KL (W1.drewN q) (FW.drewN q) T1
  have hdI : ¬ (100 < d) := by omega
  have hsI : ¬ (s ≤ 0) := by omega
  have HP := hide KP
  have H5 := hide K5
  have HT1 := hide T1
  have HB1 := hide B1
  have HFW := hide FW
  have HW1 := hide hW1
  have HL1 := hide hl1
  clear KP K5 KL T1 B1 FW F1 F2 H1 S1 h hS hT hW1 T0 hp hl1
  go_enter Try.func78, Try.ntmps78
  go_wp2_with fail
  rw [← HW1.out]
  clear c0 c1 i0 fz s1
  go_wp2_with (first
    | (go_at_call 111; refine HP.out.mono ?_; rintro e w2 ⟨rfl, q2, rfl⟩)
    | (go_at_call 112; refine (H5.out _).mono ?_; rintro e w5 ⟨v5, rfl, I5, F5⟩; obtain ⟨ao, cap, rfl⟩ := I5.shape; have F5' : Fr (fun j => j = tb) W1 w5 := Fr.trans ((Fr.refl _ W1).drewN _) F5 (fun _ _ e => e); have b2 := (F5'.block _ (Array.getElem?_eq_some_iff.1 HB1.out).1 (by omega)).trans HB1.out; obtain ⟨d0, d1, d2, d3, d4, d5, d6⟩ := cells7 b2; obtain ⟨z0, z1, z2, z3, z4, z5, z6⟩ := frozen7 b2; have HB2 := hide b2; have HF5 := hide F5'; have HI5 := hide I5; clear F5 F5' b2 I5))
  obtain ⟨b3, F3⟩ := stoF7 HB2.out (.int .i64 6) (.int .i64 0) (.bool false) (.slice none 0 0) (.string ⟨#[]⟩) (.slice ao K cap) (.slice none 0 0)
  clear d0 d1 d2 d3 d4 d5 d6 z0 z1 z2 z3 z4 z5 z6
  generalize (((((((w5.setCell ⟨w.heap.size, 0, none⟩ (.int .i64 6)).setCell ⟨w.heap.size, 1, none⟩ (.int .i64 0)).setCell ⟨w.heap.size, 2, none⟩ (.bool false)).setCell ⟨w.heap.size, 3, none⟩ (.slice none 0 0)).setCell ⟨w.heap.size, 4, none⟩ (.string ⟨#[]⟩)).setCell ⟨w.heap.size, 5, none⟩ (.slice ao K cap)).setCell ⟨w.heap.size, 6, none⟩ (.slice none 0 0)) = wf at *
  obtain ⟨d0, d1, d2, d3, d4, d5, d6⟩ := cells7 b3
  refine bodyPost_ret (by simp [results, Try.results78, go_sem, d0, d1, d2, d3, d4, d5, d6]; rfl) rfl ?_
  have hl1 := HL1.out
  exact ⟨_, rfl, (HI5.out.fr F3 (fun j hj e => by replace hj : W1.heap.size ≤ j := hj; omega)).low (by show w.heap.size ≤ W1.heap.size; omega), Fr.trans (Fr.trans HFW.out HF5.out (fun _ _ e => e)) F3 (fun k hk e => by omega)⟩

set_option maxRecDepth 20000 in
set_option maxHeartbeats 4000000 in
theorem take_yes (w : World) (sb : Nat) (x : Nat) (kd : Int) (K : Nat) (z : Nat → Int)
    (KD : ∀ w1, Fr (fun _ => False) w w1 → TakAt w1 (w.heap.size + 1) sb 20000 → Calls Try.prog 78 #[.pointer (some ⟨w.heap.size + 1, 0, none⟩), .int .i64 1, .int .u64 (x : Int)] w1 fun e w' => ∃ v, e = .returned (.tuple #[.agg #[.int .i64 kd, .int .i64 0, .bool false, .slice none 0 0, .string ⟨#[]⟩, v, .slice none 0 0], .bool true]) ∧ Items w1 w' v K z ∧ Fr (fun j => j = w.heap.size + 1) w1 w') :
    Calls Try.prog 36 #[.pointer (some ⟨sb, 0, none⟩), .int .u64 (x : Int), .int .i64 20000] w fun e w' => ∃ v, e = .returned (.tuple #[.agg #[.int .i64 kd, .int .i64 0, .bool false, .slice none 0 0, .string ⟨#[]⟩, v, .slice none 0 0], .bool true]) ∧ Items w w' v K z ∧ Fr (fun _ => False) w w' := by
  obtain ⟨W1, hW1⟩ : ∃ W1, W1 = (w.alloc (.cells #[.int .i64 0, .int .i64 0, .bool false, .slice none 0 0, .string ⟨#[]⟩, .slice none 0 0, .slice none 0 0] 73)).alloc (.cells #[.pointer (some ⟨sb, 0, none⟩), .int .i64 20000] 126) := ⟨_, rfl⟩
  have F1 : Fr (fun _ => False) w W1 := by rw [hW1]; exact ((Fr.refl _ w).alloc _).alloc _
  have hl1 : W1.heap.size = w.heap.size + 2 := by rw [hW1, World.size_alloc, World.size_alloc]
  have B1 : W1.heap[w.heap.size]? = some (.cells #[.int .i64 0, .int .i64 0, .bool false, .slice none 0 0, .string ⟨#[]⟩, .slice none 0 0, .slice none 0 0] 73 (0, 0)) := by
    rw [hW1]
    exact (heap_alloc_old _ _ (r := w.heap.size) (by simp)).trans (heap_alloc_new w _)
  have T1 : TakAt W1 (w.heap.size + 1) sb 20000 := by
    rw [hW1]
    have := heap_alloc_new (w.alloc (.cells #[.int .i64 0, .int .i64 0, .bool false, .slice none 0 0, .string ⟨#[]⟩, .slice none 0 0, .slice none 0 0] 73)) (.cells #[.pointer (some ⟨sb, 0, none⟩), .int .i64 20000] 126)
    rw [World.size_alloc] at this
    exact this
  have K' := KD W1 F1 T1
  have HK := hide K'
  have HB1 := hide B1
  have HF1 := hide F1
  have HW1 := hide hW1
  have HL1 := hide hl1
  clear K' KD B1 F1 T1 hW1 hl1
  go_enter Try.func36, Try.ntmps36
  go_wp2_with fail
  rw [← HW1.out]
  go_wp2_with (go_at_call 78; refine HK.out.mono ?_; rintro e w5 ⟨v5, rfl, I5, F5⟩; obtain ⟨ao, cap, rfl⟩ := I5.shape; have b2 := (F5.block _ (Array.getElem?_eq_some_iff.1 HB1.out).1 (by omega)).trans HB1.out; obtain ⟨d0, d1, d2, d3, d4, d5, d6⟩ := cells7 b2; obtain ⟨z0, z1, z2, z3, z4, z5, z6⟩ := frozen7 b2; have HB2 := hide b2; have HF5 := hide F5; have HI5 := hide I5; clear F5 b2 I5)
  obtain ⟨b3, F3⟩ := stoF7 HB2.out (.int .i64 kd) (.int .i64 0) (.bool false) (.slice none 0 0) (.string ⟨#[]⟩) (.slice ao K cap) (.slice none 0 0)
  clear d0 d1 d2 d3 d4 d5 d6 z0 z1 z2 z3 z4 z5 z6
  generalize (((((((w5.setCell ⟨w.heap.size, 0, none⟩ (.int .i64 kd)).setCell ⟨w.heap.size, 1, none⟩ (.int .i64 0)).setCell ⟨w.heap.size, 2, none⟩ (.bool false)).setCell ⟨w.heap.size, 3, none⟩ (.slice none 0 0)).setCell ⟨w.heap.size, 4, none⟩ (.string ⟨#[]⟩)).setCell ⟨w.heap.size, 5, none⟩ (.slice ao K cap)).setCell ⟨w.heap.size, 6, none⟩ (.slice none 0 0)) = wf at *
  obtain ⟨d0, d1, d2, d3, d4, d5, d6⟩ := cells7 b3
  refine bodyPost_ret (by simp [results, Try.results36, go_sem, d0, d1, d2, d3, d4, d5, d6]; rfl) rfl ?_
  have hl1 := HL1.out
  exact ⟨_, rfl, (HI5.out.fr F3 (fun j hj e => by omega)).low (by omega), Fr.trans (Fr.trans HF1.out HF5.out (fun k hk e => by omega)) F3 (fun k hk e => by omega)⟩

/-- A list of fixnums is told whole. -/
theorem take_list (w : World) (sb hb : Nat) (X : Nat → Prop) (sz : Nat) (tm : Int) (n : Nat) (f : Nat → Nat) (st : Nat → Bool) (u c : Nat → Nat) (z : Nat → Int) (K : Nat) (h : HeapAt w hb X sz tm n f st) (hS : w.cell? ⟨sb, 0, none⟩ = some (.pointer (some ⟨hb, 0, none⟩))) (hf : Follows f st u c z K) (hK0 : 0 < K) (hK : K ≤ 100) (hend : u K = 10) :
    Calls Try.prog 36 #[.pointer (some ⟨sb, 0, none⟩), .int .u64 (u 0 : Int), .int .i64 20000] w fun e w' => ∃ v, e = .returned (.tuple #[.agg #[.int .i64 6, .int .i64 0, .bool false, .slice none 0 0, .string ⟨#[]⟩, v, .slice none 0 0], .bool true]) ∧ Items w w' v K z ∧ Fr (fun _ => False) w w' := by
  have hsl : sb < w.heap.size := World.block_lt_of_cell? _ _ hS
  have hX : ¬ X (w.heap.size + 1) := fun e => by have := h.lt e; omega
  refine take_yes w sb (u 0) 6 K z fun w1 F1 T1 => ?_
  refine datumP_yes w1 (w.heap.size + 1) sb hb X sz tm n f st (u 0) 1 20000 K z (h.fr F1 (fun _ _ e => e)) ((F1.cell hsl (fun e => e)).trans hS) T1 hX (by omega) (hf.lt 0) (by decide) (by decide) (by decide) (hf.pair 0 hK0) fun w2 F2 T2 => ?_
  have htl : w.heap.size + 1 < w1.heap.size := (Array.getElem?_eq_some_iff.1 T1).1
  have h2 := h.fr (Fr.trans (F1.mono fun _ _ e => e.elim : Fr (fun j => j = w.heap.size + 1) w w1) F2 (fun _ _ e => e)) (fun k hk e => hX (e ▸ hk))
  have s2 := (F2.cell (o := 0) (b := sb) (by omega) (by omega)).trans ((F1.cell hsl (fun e => e)).trans hS)
  refine listT_yes w2 (w.heap.size + 1) (u 0) 1 K z (by decide) (by decide) (fun w3 F3 => ?_) (Nat.lt_of_lt_of_le htl F2.size)
  have l2 := (Array.getElem?_eq_some_iff.1 T2).1
  have K4 := chainT_list w3 (w.heap.size + 1) sb hb X sz tm n f st (1 + 1) 19999 K u c z (h2.fr F3 (fun _ _ e => e)) ((F3.cell (World.block_lt_of_cell? _ _ s2) (fun e => e)).trans s2) ((F3.block _ l2 (fun e => e)).trans T2) hX (by omega) (by decide) (by decide) hf (by omega) (by rw [hend, headOf_no (by simp [isPtr])]; decide)
  rw [hend] at K4
  refine K4.mono fun e w' he => ?_
  obtain ⟨v, e1, e2, _, e4⟩ := he
  exact ⟨v, e1, e2, e4⟩

/-- Fixnums are the fields of the object x. -/
structure Fields (f : Nat → Nat) (st : Nat → Bool) (x K : Nat) (c : Nat → Nat) (z : Nat → Int) : Prop where
  at_ : ∀ k, k < K → fieldAt f st x k = c k
  clt : ∀ k, c k < 18446744073709551616
  fix : ∀ k, c k % 4 = 1
  val : ∀ k, z k = intW (c k)

/-- The datum v of a vector under way. -/
def vecD (v : Value) : Array Value := #[.int .i64 7, .int .i64 0, .bool false, .slice none 0 0, .string ⟨#[]⟩, v, .slice none 0 0]

/-- What the loop of vector keeps. -/
structure VecI (W0 : World) (B tb sb : Nat) (s : Int) (v : Value) (k : Nat) (z : Nat → Int) (wr : World) : Prop where
  b0 : wr.heap[B]? = some (.cells zeroD 73 (0, 0))
  b1 : wr.heap[B + 1]? = some (.cells (vecD v) 73 (0, 0))
  it : Items W0 wr v k z
  tk : TakAt wr tb sb s
  F : Fr (fun j => j = tb ∨ j = B + 1) W0 wr

theorem chainT_frS {S : Nat → Prop} {w wr w5 w9 : World} {tb : Nat} {v : Value} {k : Nat} {xs : List Value} {o o' : Obj} (hrow : w5.ownsRow w.heap.size 73 7 v k xs) (F : Fr S w wr) (F5 : Fr (fun j => j = tb) wr w5) (hS : S tb) (hg : ((w5.alloc o).alloc o').grownBy w9 v.ownBlock) : Fr S w w9 :=
  (((Fr.trans F F5 (fun _ _ e => e ▸ hS)).alloc o).alloc o').grow hg (fun j hj e => by
    have := (hrow.lt j e).1
    omega)

set_option maxRecDepth 20000 in
set_option maxHeartbeats 8000000 in
theorem vectorT_yes (w : World) (tb sb hb : Nat) (X : Nat → Prop) (sz : Nat) (tm : Int) (n : Nat) (f : Nat → Nat) (st : Nat → Bool) (d : Int) (s K x : Nat) (c : Nat → Nat) (z : Nat → Int) (h : HeapAt w hb X sz tm n f st) (hS : w.cell? ⟨sb, 0, none⟩ = some (.pointer (some ⟨hb, 0, none⟩))) (hT : TakAt w tb sb (s : Int)) (htX : ¬ X tb) (hts : tb ≠ sb) (hd0 : 0 ≤ d) (hd : d < 100) (hs1 : s ≤ 20000) (hf : Fields f st x K c z) (hK : K ≤ s) (hx : x < 18446744073709551616) (htag : hTag (headOf f st x) = K) :
    Calls Try.prog 114 #[.pointer (some ⟨tb, 0, none⟩), .int .i64 d, .int .u64 (x : Int)] w fun e w' => ∃ v, e = .returned (.tuple #[.agg (vecD v), .bool true]) ∧ Items w w' v K z ∧ Fr (fun j => j = tb) w w' := by
  obtain ⟨iD, hiD, hz0, hz1, hz2⟩ := info_parts infoD
  have hsl : sb < w.heap.size := World.block_lt_of_cell? _ _ hS
  have htl : tb < w.heap.size := (Array.getElem?_eq_some_iff.1 hT).1
  obtain ⟨W0, hW0⟩ : ∃ W0, W0 = (w.alloc (.cells #[.int .i64 0, .int .i64 0, .bool false, .slice none 0 0, .string ⟨#[]⟩, .slice none 0 0, .slice none 0 0] 73)).alloc (.cells #[.int .i64 7, .int .i64 0, .bool false, .slice none 0 0, .string ⟨#[]⟩, .slice none 0 0, .slice none 0 0] 73) := ⟨_, rfl⟩
  have F0 : Fr (fun _ => False) w W0 := by rw [hW0]; exact ((Fr.refl _ w).alloc _).alloc _
  have hl0 : W0.heap.size = w.heap.size + 2 := by rw [hW0, World.size_alloc, World.size_alloc]
  have B0 : W0.heap[w.heap.size]? = some (.cells zeroD 73 (0, 0)) := by
    rw [hW0]
    exact (heap_alloc_old _ _ (r := w.heap.size) (by simp)).trans (heap_alloc_new w _)
  have B1 : W0.heap[w.heap.size + 1]? = some (.cells (vecD (.slice none 0 0)) 73 (0, 0)) := by
    rw [hW0]
    have := heap_alloc_new (w.alloc (.cells #[.int .i64 0, .int .i64 0, .bool false, .slice none 0 0, .string ⟨#[]⟩, .slice none 0 0, .slice none 0 0] 73)) (.cells #[.int .i64 7, .int .i64 0, .bool false, .slice none 0 0, .string ⟨#[]⟩, .slice none 0 0, .slice none 0 0] 73)
    rw [World.size_alloc] at this
    exact this
  have T0 : TakAt W0 tb sb (s : Int) := (F0.block tb htl (fun e => e)).trans hT
  have S0 := (F0.cell (o := 0) hsl (fun e => e)).trans hS
  have H0 := h.fr F0 (fun _ _ e => e)
  have e0 := cell_of_row W0 tb 0 _ _ _ T0
  have i0 := e0
  rw [hW0] at i0
  have i1 := S0
  rw [hW0] at i1
  have KT := heapTagged_any W0 hb X sz tm n f st x H0 hx
  rw [htag] at KT
  have KH : ∀ w1, Fr (fun k => k = tb ∨ k = w.heap.size + 1) W0 w1 → HeapAt w1 hb X sz tm n f st ∧ w1.cell? ⟨sb, 0, none⟩ = some (.pointer (some ⟨hb, 0, none⟩)) := fun w1 F => ⟨H0.fr F (fun k hk e => by rcases e with e | e; exact htX (e ▸ hk); have := h.lt hk; omega), (F.cell (by omega) (by omega)).trans S0⟩
  have HI0 : Hid (VecI W0 w.heap.size tb sb ((s - 0 : Nat) : Int) (.slice none 0 0) 0 z W0) := hide ⟨B0, B1, Items.nil _ _ _, T0, Fr.refl _ _⟩
  have s0 := S0
  have HT := hide KT
  have HH := hide KH
  have HF := hide hf
  have HW := hide hW0
  have HF0 := hide F0
  clear KH h hS hT hf KT hW0 F0 B0 B1 T0 S0 H0 htag
  go_enter Try.func114, Try.ntmps114
  go_wp2_with fail
  rw [← HW.out]
  clear i0 i1
  go_wp2_with (go_at_call 34; refine HT.out.mono ?_; rintro e w1 ⟨rfl, q1, rfl⟩)
  have HI1 : Hid (VecI W0 w.heap.size tb sb ((s - 0 : Nat) : Int) (.slice none 0 0) 0 z (W0.drewN q1)) := hide ⟨HI0.out.b0, HI0.out.b1, HI0.out.it.fr ((Fr.refl (fun _ => False) W0).drewN q1) (fun _ _ e => e), HI0.out.tk, (Fr.refl _ W0).drewN q1⟩
  go_loopw [22] (fun a22 wr => ∃ k : Nat, k ≤ K ∧ a22 = .int .i64 (k : Int) ∧ ∃ v, VecI W0 w.heap.size tb sb ((s - k : Nat) : Int) v k z wr) (fun a22 _ => K - (intOf a22).toNat)
  case atStart => exact ⟨0, Nat.zero_le _, rfl, _, HI1.out⟩
  case round =>
    obtain ⟨k, hk, rfl, v, hI⟩ := hrel
    have t0 := cell_of_row wr tb 0 _ _ _ hI.tk
    obtain ⟨hH, hSk⟩ := HH.out wr hI.F
    obtain ⟨ao, cap, rfl⟩ := hI.it.shape
    by_cases hlt : k < K
    · have KC := vfield_any wr sb hb X sz tm n f st x k hH hSk hx
      rw [HF.out.at_ k hlt] at KC
      have KD := fun q => datum_fix (wr.drewN q) tb sb hb X sz tm n f st (c k) (d + 1) ((s - k : Nat) : Int) (z k) (hH.drewN q) hSk hI.tk htX hts (HF.out.clt k) (by omega) (by omega) (by omega) (HF.out.fix k) (HF.out.val k)
      have hss := hI.F.size
      have hB : w.heap.size + 1 < wr.heap.size := by omega
      obtain ⟨r, hr⟩ : ∃ r, r = s - k := ⟨_, rfl⟩
      obtain ⟨zk, hzk⟩ : ∃ zk, zk = z k := ⟨_, rfl⟩
      obtain ⟨ck, hck⟩ : ∃ ck, ck = c k := ⟨_, rfl⟩
      rw [← hr, ← hzk, ← hck] at KD
      rw [← hck] at KC
      have hkI : (k : Int) < (K : Int) := by omega
      have HC := hide KC
      have HD := hide KD
      have HI := hide hI
      have HZ := hide hzk
      have HR := hide hr
      clear KC KD hI hzk hr hck hH hSk
      go_wp2_with (first
        | (go_at_call 59; refine HC.out.mono ?_; rintro e w2 ⟨rfl, q2, rfl⟩)
        | (go_at_call 78; refine (HD.out _).mono ?_; rintro e w5 ⟨L, rfl, L5, LL, T5, F5⟩; have F5' : Fr (fun j => j = tb) wr w5 := Fr.trans ((Fr.refl _ wr).drewN _) F5 (fun _ _ e => e); have hb5 : w5.heap[w.heap.size + 1]? = _ := (F5'.block _ hB (by omega)).trans HI.out.b1; have hbA := (((Fr.refl (fun _ => False) w5).alloc (.cells #[.int .i64 1, .int .i64 0, .bool (decide (zk < 0)), .slice (some ⟨L, 0, none⟩) (lenZ zk) 2, .string ⟨#[]⟩, .slice none 0 0, .slice none 0 0] 73)).block _ (Array.getElem?_eq_some_iff.1 hb5).1 (fun e => e)).trans hb5; have g5 := (cells7 hbA).2.2.2.2.2.1; have HL5 := hide L5; have HLL : Hid (wr.heap.size < L) := hide LL; have HT5 := hide T5; have HB5 := hide hb5; have HF5 := hide F5'; obtain ⟨Ls, hrow, hLs⟩ := HI.out.it; have hrw5 := ownsRow_fr hrow F5' (fun j hj e => by omega); have HLs := hide hLs; have hss5 := F5'.size; clear L5 LL T5 F5 F5' hb5 hbA hrow hLs)
        | (at_builtin; refine wpList_append_lies _ rfl _ _ 71 rfl W0.heap.size 73 iD (.agg #[.int .i64 0, .int .i64 0, .bool false, .slice none 0 0, .string ⟨#[]⟩, .slice none 0 0, .slice none 0 0]) 7 112 Try.underlying71 hiD hz0 hz1 hz2 rfl (by decide) _ k _ rfl ((hrw5.alloc _).alloc _) ⟨w5.heap.size + 1, 0, none⟩ 1 1 (intC zk L) rfl rfl (by have := hcells7 (w5.alloc (.cells #[.int .i64 1, .int .i64 0, .bool (decide (zk < 0)), .slice (some ⟨L, 0, none⟩) (lenZ zk) 2, .string ⟨#[]⟩, .slice none 0 0, .slice none 0 0] 73)) (.int .i64 1) (.int .i64 0) (.bool (decide (zk < 0))) (.slice (some ⟨L, 0, none⟩) (lenZ zk) 2) (.string ⟨#[]⟩) (.slice none 0 0) (.slice none 0 0) 73; rw [World.size_alloc] at this; exact this) (fun x hx => by simp [intC] at hx; rcases hx with rfl | rfl | rfl | rfl | rfl | rfl <;> rfl) (by decide) (by unfold maxLen; omega) (by omega) (by simp; omega) (w5.heap.size + 1 + 1) (by simp) ?_; intro g9 cap9 w9 hown9 hgrow9 _ hlt9; have I9 := hide (chainT_snoc (w := W0) (tb := tb) hrw5 HLs.out HF5.out hss (by omega) HL5.out HLL.out HZ.out hown9 hgrow9); have F9 : Fr (fun j => W0.heap.size ≤ j) w5 w9 := (((Fr.refl _ w5).alloc _).alloc _).grow hgrow9 (fun j hj e => (hrw5.lt j e).1); have b9 := (F9.block _ (Array.getElem?_eq_some_iff.1 HB5.out).1 (by omega)).trans HB5.out; have g9c := (cells7 b9).2.2.2.2.2.1; have z9 := (frozen7 b9).2.2.2.2.2.1; have HB9 := hide b9; have HT9 := hide (chainT_tak (w := W0) (tb := tb) (sb := sb) hrw5 HT5.out hgrow9 (by omega)); have HF9 := hide F9; have HFA := hide (chainT_frS (w := W0) hrw5 HI.out.F HF5.out (.inl rfl) hgrow9); clear F9 b9 hown9 hgrow9 hlt9))
      have hr := HR.out
      have FS : Fr (fun j => j = w.heap.size + 1) w9 (w9.setCell ⟨w.heap.size + 1, 5, none⟩ (.slice (some ⟨g9, 0, none⟩) (k + 1) cap9)) := Fr.setCell (S := fun j => j = w.heap.size + 1) (Fr.refl _ _) (fun _ => rfl) _ _
      have l9 := HFA.out.size
      refine ⟨⟨k + 1, by omega, by go_num, .slice (some ⟨g9, 0, none⟩) (k + 1) cap9, ?_, ?_, ?_, ?_, ?_⟩, ?_⟩
      · exact (FS.block _ (by omega) (by omega)).trans ((HFA.out.block _ (by omega) (by omega)).trans HI0.out.b0)
      · exact heap_setCell_same w9 (w.heap.size + 1) 5 _ _ _ HB9.out
      · exact I9.out.fr FS (fun j hj e => by omega)
      · have := (FS.block tb (Array.getElem?_eq_some_iff.1 HT9.out).1 (by omega)).trans HT9.out
        rw [show (r : Int) - 1 = ((s - (k + 1) : Nat) : Int) by omega] at this
        exact this
      · exact Fr.trans HFA.out FS (fun _ _ e => .inr e)
      · simp [intOf]
        omega
    · have hkK : k = K := by omega
      subst hkK
      have hkI : ¬ ((k : Int) < (k : Int)) := by omega
      obtain ⟨g0, g1, g2, g3, g4, g5, g6⟩ := cells7 hI.b1
      obtain ⟨d0, d1, d2, d3, d4, d5, d6⟩ := cells7 hI.b0
      obtain ⟨z0, z1, z2, z3, z4, z5, z6⟩ := frozen7 hI.b0
      have HI := hide hI
      clear hI hH hSk
      go_wp2
      obtain ⟨b3, F3⟩ := stoF7 HI.out.b0 (.int .i64 7) (.int .i64 0) (.bool false) (.slice none 0 0) (.string ⟨#[]⟩) (.slice ao k cap) (.slice none 0 0)
      clear d0 d1 d2 d3 d4 d5 d6 z0 z1 z2 z3 z4 z5 z6 g0 g1 g2 g3 g4 g5 g6
      generalize (((((((wr.setCell ⟨w.heap.size, 0, none⟩ (.int .i64 7)).setCell ⟨w.heap.size, 1, none⟩ (.int .i64 0)).setCell ⟨w.heap.size, 2, none⟩ (.bool false)).setCell ⟨w.heap.size, 3, none⟩ (.slice none 0 0)).setCell ⟨w.heap.size, 4, none⟩ (.string ⟨#[]⟩)).setCell ⟨w.heap.size, 5, none⟩ (.slice ao k cap)).setCell ⟨w.heap.size, 6, none⟩ (.slice none 0 0)) = wf at *
      obtain ⟨d0, d1, d2, d3, d4, d5, d6⟩ := cells7 b3
      refine bodyPost_ret (by simp [results, Try.results114, go_sem, d0, d1, d2, d3, d4, d5, d6]; rfl) rfl ?_
      exact ⟨_, rfl, (HI.out.it.fr F3 (fun j hj e => by omega)).low (by omega), Fr.trans (Fr.trans (HF0.out.mono fun _ _ e => e.elim : Fr (fun j => j = tb) w W0) HI.out.F (fun j hj e => by omega)) F3 (fun j hj e => by omega)⟩

set_option maxRecDepth 20000 in
set_option maxHeartbeats 4000000 in
/-- A vector whose items are told. -/
theorem datumV_yes (w : World) (tb sb hb : Nat) (X : Nat → Prop) (sz : Nat) (tm : Int) (n : Nat) (f : Nat → Nat) (st : Nat → Bool) (x : Nat) (d s : Int) (K : Nat) (z : Nat → Int) (h : HeapAt w hb X sz tm n f st) (hS : w.cell? ⟨sb, 0, none⟩ = some (.pointer (some ⟨hb, 0, none⟩))) (hT : TakAt w tb sb s) (htX : ¬ X tb) (hts : tb ≠ sb) (hx : x < 18446744073709551616) (hd : d ≤ 100) (hs0 : 0 < s) (hs1 : s ≤ 20000)
    (hp : shapeB (headOf f st x) 2 (hTag (headOf f st x) : Int) 0 = true) (KL : ∀ w1, Fr (fun j => j = tb) w w1 → TakAt w1 tb sb (s - 1) → Calls Try.prog 114 #[.pointer (some ⟨tb, 0, none⟩), .int .i64 d, .int .u64 (x : Int)] w1 fun e w' => ∃ v, e = .returned (.tuple #[.agg (vecD v), .bool true]) ∧ Items w1 w' v K z ∧ Fr (fun j => j = tb) w1 w') :
    Calls Try.prog 78 #[.pointer (some ⟨tb, 0, none⟩), .int .i64 d, .int .u64 (x : Int)] w fun e w' => ∃ v, e = .returned (.tuple #[.agg (vecD v), .bool true]) ∧ Items w w' v K z ∧ Fr (fun j => j = tb) w w' := by
  have hsl : sb < w.heap.size := World.block_lt_of_cell? _ _ hS
  have htl : tb < w.heap.size := (Array.getElem?_eq_some_iff.1 hT).1
  have c0 := cell_of_row w tb 0 _ _ _ hT
  have c1 := cell_of_row w tb 1 _ _ _ hT
  have fz := frozen_of_row w tb 1 _ _ hT
  have F1 : Fr (fun k => k = tb) w (w.setCell ⟨tb, 1, none⟩ (.int .i64 (s - 1))) := Fr.setCell (S := fun k => k = tb) (Fr.refl _ _) (fun _ => rfl) _ _
  have s1 : (w.setCell ⟨tb, 1, none⟩ (.int .i64 (s - 1))).heap.size = w.heap.size := by simp [World.setCell]
  have T0 : TakAt (w.setCell ⟨tb, 1, none⟩ (.int .i64 (s - 1))) tb sb (s - 1) := heap_setCell_same w tb 1 _ _ _ hT
  obtain ⟨W1, hW1⟩ : ∃ W1, W1 = (w.setCell ⟨tb, 1, none⟩ (.int .i64 (s - 1))).alloc (.cells #[.int .i64 0, .int .i64 0, .bool false, .slice none 0 0, .string ⟨#[]⟩, .slice none 0 0, .slice none 0 0] 73) := ⟨_, rfl⟩
  have F2 : Fr (fun _ => False) (w.setCell ⟨tb, 1, none⟩ (.int .i64 (s - 1))) W1 := by rw [hW1]; exact (Fr.refl _ _).alloc _
  have B1 : W1.heap[w.heap.size]? = some (.cells #[.int .i64 0, .int .i64 0, .bool false, .slice none 0 0, .string ⟨#[]⟩, .slice none 0 0, .slice none 0 0] 73 (0, 0)) := by rw [hW1, ← s1]; exact heap_alloc_new _ _
  have hl1 : W1.heap.size = w.heap.size + 1 := by rw [hW1, World.size_alloc, s1]
  have T1 : TakAt W1 tb sb (s - 1) := (F2.block tb (by omega) (fun e => e)).trans T0
  have FW : Fr (fun k => k = tb) w W1 := Fr.trans F1 F2 (fun _ _ e => e.elim)
  have e0 := cell_of_row W1 tb 0 _ _ _ T1
  have i0 := e0
  rw [hW1] at i0
  have H1 := h.fr FW (fun k hk e => htX (e ▸ hk))
  have S1 := (FW.cell (o := 0) hsl (fun e => hts e.symm)).trans hS
  have n1 : shapeB (headOf f st x) 1 2 0 = false := by
    refine shapeB_kind ?_
    unfold shapeB at hp
    simp at hp
    omega
  have KP := isPair_any W1 sb hb X sz tm n f st x H1 S1 hx
  rw [n1] at KP
  have KV := fun q => isVec_any (W1.drewN q) sb hb X sz tm n f st x (H1.drewN q) S1 hx
  rw [hp] at KV
  have HV := hide KV
  have K5 := fun q => KL (W1.drewN q) (FW.drewN q) T1
  have hdI : ¬ (100 < d) := by omega
  have hsI : ¬ (s ≤ 0) := by omega
  have HP := hide KP
  have H5 := hide K5
  have HT1 := hide T1
  have HB1 := hide B1
  have HFW := hide FW
  have HW1 := hide hW1
  have HL1 := hide hl1
  clear KP KV n1 K5 KL T1 B1 FW F1 F2 H1 S1 h hS hT hW1 T0 hp hl1
  go_enter Try.func78, Try.ntmps78
  go_wp2_with fail
  rw [← HW1.out]
  clear c0 c1 i0 fz s1
  go_wp2_with (first
    | (go_at_call 111; refine HP.out.mono ?_; rintro e w2 ⟨rfl, q2, rfl⟩)
    | (go_at_call 113; refine (HV.out _).mono ?_; rintro e w3 ⟨rfl, q3, hq3⟩; replace hq3 : w3 = W1.drewN (q2 + q3) := (by rw [hq3]; simp); subst hq3)
    | (go_at_call 114; refine (H5.out _).mono ?_; rintro e w5 ⟨v5, rfl, I5, F5⟩; obtain ⟨ao, cap, rfl⟩ := I5.shape; unfold vecD; have F5' : Fr (fun j => j = tb) W1 w5 := Fr.trans ((Fr.refl _ W1).drewN _) F5 (fun _ _ e => e); have b2 := (F5'.block _ (Array.getElem?_eq_some_iff.1 HB1.out).1 (by omega)).trans HB1.out; obtain ⟨d0, d1, d2, d3, d4, d5, d6⟩ := cells7 b2; obtain ⟨z0, z1, z2, z3, z4, z5, z6⟩ := frozen7 b2; have HB2 := hide b2; have HF5 := hide F5'; have HI5 := hide I5; clear F5 F5' b2 I5))
  obtain ⟨b3, F3⟩ := stoF7 HB2.out (.int .i64 7) (.int .i64 0) (.bool false) (.slice none 0 0) (.string ⟨#[]⟩) (.slice ao K cap) (.slice none 0 0)
  clear d0 d1 d2 d3 d4 d5 d6 z0 z1 z2 z3 z4 z5 z6
  generalize (((((((w5.setCell ⟨w.heap.size, 0, none⟩ (.int .i64 7)).setCell ⟨w.heap.size, 1, none⟩ (.int .i64 0)).setCell ⟨w.heap.size, 2, none⟩ (.bool false)).setCell ⟨w.heap.size, 3, none⟩ (.slice none 0 0)).setCell ⟨w.heap.size, 4, none⟩ (.string ⟨#[]⟩)).setCell ⟨w.heap.size, 5, none⟩ (.slice ao K cap)).setCell ⟨w.heap.size, 6, none⟩ (.slice none 0 0)) = wf at *
  obtain ⟨d0, d1, d2, d3, d4, d5, d6⟩ := cells7 b3
  refine bodyPost_ret (by simp [results, Try.results78, go_sem, d0, d1, d2, d3, d4, d5, d6]; rfl) rfl ?_
  have hl1 := HL1.out
  exact ⟨_, rfl, (HI5.out.fr F3 (fun j hj e => by replace hj : W1.heap.size ≤ j := hj; omega)).low (by show w.heap.size ≤ W1.heap.size; omega), Fr.trans (Fr.trans HFW.out HF5.out (fun _ _ e => e)) F3 (fun k hk e => by omega)⟩

/-- A vector of fixnums is told whole. -/
theorem take_vector (w : World) (sb hb : Nat) (X : Nat → Prop) (sz : Nat) (tm : Int) (n : Nat) (f : Nat → Nat) (st : Nat → Bool) (x : Nat) (c : Nat → Nat) (z : Nat → Int) (K : Nat) (h : HeapAt w hb X sz tm n f st) (hS : w.cell? ⟨sb, 0, none⟩ = some (.pointer (some ⟨hb, 0, none⟩))) (hx : x < 18446744073709551616) (hd : headOf f st x = hOf 2 K 0) (hf : Fields f st x K c z) (hK : K ≤ 100) :
    Calls Try.prog 36 #[.pointer (some ⟨sb, 0, none⟩), .int .u64 (x : Int), .int .i64 20000] w fun e w' => ∃ v, e = .returned (.tuple #[.agg #[.int .i64 7, .int .i64 0, .bool false, .slice none 0 0, .string ⟨#[]⟩, v, .slice none 0 0], .bool true]) ∧ Items w w' v K z ∧ Fr (fun _ => False) w w' := by
  have hsl : sb < w.heap.size := World.block_lt_of_cell? _ _ hS
  have hX : ¬ X (w.heap.size + 1) := fun e => by have := h.lt e; omega
  have htag : hTag (headOf f st x) = K := by rw [hd]; exact hTag_of (by decide) (by omega)
  refine take_yes w sb x 7 K z fun w1 F1 T1 => ?_
  refine datumV_yes w1 (w.heap.size + 1) sb hb X sz tm n f st x 1 20000 K z (h.fr F1 (fun _ _ e => e)) ((F1.cell hsl (fun e => e)).trans hS) T1 hX (by omega) hx (by decide) (by decide) (by decide) (by unfold shapeB; rw [hd, hKind_of (by decide), hTag_of (by decide) (by omega), hRaw_of (by decide) (by omega) (by decide)]; simp) fun w2 F2 T2 => ?_
  have htl : w.heap.size + 1 < w1.heap.size := (Array.getElem?_eq_some_iff.1 T1).1
  have h2 := h.fr (Fr.trans (F1.mono fun _ _ e => e.elim : Fr (fun j => j = w.heap.size + 1) w w1) F2 (fun _ _ e => e)) (fun k hk e => hX (e ▸ hk))
  have s2 := (F2.cell (o := 0) (b := sb) (by omega) (by omega)).trans ((F1.cell hsl (fun e => e)).trans hS)
  exact vectorT_yes w2 (w.heap.size + 1) sb hb X sz tm n f st 1 19999 K x c z h2 s2 T2 hX (by omega) (by decide) (by decide) (by decide) hf (by omega) hx htag

set_option maxRecDepth 20000 in
set_option maxHeartbeats 2000000 in
theorem bytes_no (w : World) (sb hb : Nat) (X : Nat → Prop) (sz : Nat) (tm : Int) (n : Nat) (f : Nat → Nat) (st : Nat → Bool) (x : Nat) (h : HeapAt w hb X sz tm n f st) (hS : w.cell? ⟨sb, 0, none⟩ = some (.pointer (some ⟨hb, 0, none⟩))) (hx : x < 18446744073709551616) (hk : hKind (headOf f st x) ≠ 3) :
    Calls Try.prog 39 #[.pointer (some ⟨sb, 0, none⟩), .int .u64 (x : Int)] w fun e w' => e = .returned (.tuple #[.slice none 0 0, .bool false]) ∧ ∃ q, w' = w.drewN q := by
  have K := isText_no w sb hb X sz tm n f st x h hS hx hk
  have HK := hide K
  clear K h hS
  go_enter Try.func39, Try.ntmps39
  go_wp2_with (go_at_call 80; refine HK.out.mono ?_; rintro e w1 ⟨rfl, q1, rfl⟩)
  go_ret2
  exact ⟨rfl, _, rfl⟩

set_option maxRecDepth 20000 in
set_option maxHeartbeats 2000000 in
theorem name_no (w : World) (sb hb : Nat) (X : Nat → Prop) (sz : Nat) (tm : Int) (n : Nat) (f : Nat → Nat) (st : Nat → Bool) (x : Nat) (h : HeapAt w hb X sz tm n f st) (hS : w.cell? ⟨sb, 0, none⟩ = some (.pointer (some ⟨hb, 0, none⟩))) (hx : x < 18446744073709551616) (hk : hKind (headOf f st x) = 0) :
    Calls Try.prog 19 #[.pointer (some ⟨sb, 0, none⟩), .int .u64 (x : Int)] w fun e w' => e = .returned (.tuple #[.string ⟨#[]⟩, .bool false]) ∧ ∃ q, w' = w.drewN q := by
  have K := fun (k : Int) (hk2 : k ≠ 0) => shape_any w sb hb X sz tm n f st x k 1 0 h hS hx
  have HK := hide K
  clear K h hS
  go_enter Try.func19, Try.ntmps19
  go_wp2_with (go_at_call 58; refine (HK.out _ (by decide)).mono ?_; rintro e w1 ⟨rfl, q1, rfl⟩; rw [shapeB_kind (by rw [hk]; decide)])
  go_ret2
  exact ⟨rfl, _, rfl⟩

set_option maxRecDepth 20000 in
set_option maxHeartbeats 2000000 in
theorem closure_no (w : World) (sb hb : Nat) (X : Nat → Prop) (sz : Nat) (tm : Int) (n : Nat) (f : Nat → Nat) (st : Nat → Bool) (x : Nat) (h : HeapAt w hb X sz tm n f st) (hS : w.cell? ⟨sb, 0, none⟩ = some (.pointer (some ⟨hb, 0, none⟩))) (hx : x < 18446744073709551616) (hk : headOf f st x = 0) :
    Calls Try.prog 134 #[.pointer (some ⟨sb, 0, none⟩), .int .u64 (x : Int)] w fun e w' => e = .returned (.bool false) ∧ ∃ q, w' = w.drewN q := by
  have KT := heapTagged_any w hb X sz tm n f st x h hx
  rw [hk, show hTag 0 = 0 from rfl] at KT
  have K := fun (k : Int) (q : Nat) => shape_any (w.drewN q) sb hb X sz tm n f st x k 0 1 (h.drewN q) hS hx
  rw [hk] at K
  have HK := hide K
  have HT := hide KT
  have s0 := hS
  clear K KT h hS
  go_enter Try.func134, Try.ntmps134
  go_wp2_with (first
    | (go_at_call 34; refine HT.out.mono ?_; rintro e w1 ⟨rfl, q1, rfl⟩)
    | (go_at_call 58; refine (HK.out _ _).mono ?_; rintro e w2 ⟨rfl, q2, hq2⟩; replace hq2 : w2 = w.drewN (q1 + q2) := (by rw [hq2]; simp); subst hq2; rw [shapeB_kind (by decide)]))
  go_ret
  exact ⟨rfl, _, rfl⟩

set_option maxRecDepth 20000 in
set_option maxHeartbeats 2000000 in
theorem immediate_ten (w : World) :
    Calls Try.prog 135 #[.int .u64 10] w fun e w' => e = .returned (.agg #[.int .i64 6, .int .i64 0, .bool false, .slice none 0 0, .string ⟨#[]⟩, .slice none 0 0, .slice none 0 0]) ∧ Fr (fun _ => False) w w' := by
  go_enter Try.func135, Try.ntmps135
  go_wp2
  go_returns
  exact ⟨rfl, (Fr.refl _ w).alloc _⟩

set_option maxRecDepth 20000 in
set_option maxHeartbeats 4000000 in
theorem simple_ten (w : World) (sb hb : Nat) (X : Nat → Prop) (sz : Nat) (tm : Int) (n : Nat) (f : Nat → Nat) (st : Nat → Bool) (h : HeapAt w hb X sz tm n f st) (hS : w.cell? ⟨sb, 0, none⟩ = some (.pointer (some ⟨hb, 0, none⟩))) :
    Calls Try.prog 117 #[.pointer (some ⟨sb, 0, none⟩), .int .u64 10] w fun e w' => e = .returned (.agg #[.int .i64 6, .int .i64 0, .bool false, .slice none 0 0, .string ⟨#[]⟩, .slice none 0 0, .slice none 0 0]) ∧ Fr (fun _ => False) w w' := by
  have hsl : sb < w.heap.size := World.block_lt_of_cell? _ _ hS
  have h0 : headOf f st 10 = 0 := headOf_no (by simp [isPtr])
  have KH := fun (w1 : World) (F1 : Fr (fun _ => False) w w1) => (⟨h.fr F1 (fun _ _ e => e), (F1.cell hsl (fun e => e)).trans hS⟩ : HeapAt w1 hb X sz tm n f st ∧ w1.cell? ⟨sb, 0, none⟩ = some (.pointer (some ⟨hb, 0, none⟩)))
  have KN := fun (w1 : World) (F1 : Fr (fun _ => False) w w1) => num_no w1 sb hb X sz tm n f st 10 (KH w1 F1).1 (KH w1 F1).2 (by decide) (by rw [h0]; decide) (by decide)
  have KB := fun (w1 : World) (F1 : Fr (fun _ => False) w w1) => bytes_no w1 sb hb X sz tm n f st 10 (KH w1 F1).1 (KH w1 F1).2 (by decide) (by rw [h0]; decide)
  have KM := fun (w1 : World) (F1 : Fr (fun _ => False) w w1) => name_no w1 sb hb X sz tm n f st 10 (KH w1 F1).1 (KH w1 F1).2 (by decide) (by rw [h0]; decide)
  have KC := fun (w1 : World) (F1 : Fr (fun _ => False) w w1) => closure_no w1 sb hb X sz tm n f st 10 (KH w1 F1).1 (KH w1 F1).2 (by decide) h0
  have HN := hide KN
  have HB := hide KB
  have HM := hide KM
  have HC := hide KC
  clear KN KB KM KC KH h hS
  go_enter Try.func117, Try.ntmps117
  go_wp2_with (first
    | (go_at_call 27; refine (HN.out _ ((Fr.refl _ w).alloc _)).mono ?_; rintro e w1 ⟨rfl, F1⟩; have F1' : Fr (fun _ => False) w (w1.alloc (.cells #[.bool false, .slice none 0 0] 45)) := (Fr.trans ((Fr.refl _ w).alloc _) F1 (fun _ _ e => e)).alloc _; have bb : (w1.alloc (.cells #[.bool false, .slice none 0 0] 45)).heap[w.heap.size]? = some (.cells zeroD 73 (0, 0)) := ((F1.alloc _).block _ (by simp) (fun e => e)).trans (heap_alloc_new w _); have HF1 := hide F1'; have HBB := hide bb; clear F1 F1' bb)
    | (go_at_call 39; refine (HB.out _ HF1.out).mono ?_; rintro e w2 ⟨rfl, q2, rfl⟩)
    | (go_at_call 19; refine (HM.out _ ?_).mono ?_; exact HF1.out.like rfl rfl rfl rfl; rintro e w3 ⟨rfl, q3, rfl⟩)
    | (go_at_call 134; refine (HC.out _ ?_).mono ?_; exact HF1.out.like rfl rfl rfl rfl; rintro e w4 ⟨rfl, q4, rfl⟩)
    | (go_at_call 135; refine (immediate_ten _).mono ?_; rintro e w5 ⟨rfl, F5⟩; have b2 : w5.heap[w.heap.size]? = some (.cells zeroD 73 (0, 0)) := (F5.block _ (Array.getElem?_eq_some_iff.1 HBB.out).1 (fun e => e)).trans HBB.out; obtain ⟨d0, d1, d2, d3, d4, d5, d6⟩ := cells7 b2; obtain ⟨z0, z1, z2, z3, z4, z5, z6⟩ := frozen7 b2; have HB2 := hide b2; have HFA : Hid (Fr (fun _ => False) w w5) := hide (Fr.trans HF1.out (show Fr (fun _ => False) (w1.alloc (.cells #[.bool false, .slice none 0 0] 45)) w5 from ⟨F5.os, F5.tape, F5.output, F5.size, F5.block⟩) (fun _ _ e => e)); clear F5 b2))
  obtain ⟨b3, F3⟩ := stoF7 HB2.out (.int .i64 6) (.int .i64 0) (.bool false) (.slice none 0 0) (.string ⟨#[]⟩) (.slice none 0 0) (.slice none 0 0)
  clear d0 d1 d2 d3 d4 d5 d6 z0 z1 z2 z3 z4 z5 z6
  generalize (((((((w5.setCell ⟨w.heap.size, 0, none⟩ (.int .i64 6)).setCell ⟨w.heap.size, 1, none⟩ (.int .i64 0)).setCell ⟨w.heap.size, 2, none⟩ (.bool false)).setCell ⟨w.heap.size, 3, none⟩ (.slice none 0 0)).setCell ⟨w.heap.size, 4, none⟩ (.string ⟨#[]⟩)).setCell ⟨w.heap.size, 5, none⟩ (.slice none 0 0)).setCell ⟨w.heap.size, 6, none⟩ (.slice none 0 0)) = wf at *
  obtain ⟨d0, d1, d2, d3, d4, d5, d6⟩ := cells7 b3
  refine bodyPost_ret (by simp [results, Try.results117, go_sem, d0, d1, d2, d3, d4, d5, d6]; rfl) rfl ?_
  exact ⟨rfl, Fr.trans HFA.out F3 (fun k hk e => by omega)⟩

/-- The empty list is told. -/
theorem take_ten (w : World) (sb hb : Nat) (X : Nat → Prop) (sz : Nat) (tm : Int) (n : Nat) (f : Nat → Nat) (st : Nat → Bool) (z : Nat → Int) (h : HeapAt w hb X sz tm n f st) (hS : w.cell? ⟨sb, 0, none⟩ = some (.pointer (some ⟨hb, 0, none⟩))) :
    Calls Try.prog 36 #[.pointer (some ⟨sb, 0, none⟩), .int .u64 10, .int .i64 20000] w fun e w' => ∃ v, e = .returned (.tuple #[.agg #[.int .i64 6, .int .i64 0, .bool false, .slice none 0 0, .string ⟨#[]⟩, v, .slice none 0 0], .bool true]) ∧ Items w w' v 0 z ∧ Fr (fun _ => False) w w' := by
  have hsl : sb < w.heap.size := World.block_lt_of_cell? _ _ hS
  have hX : ¬ X (w.heap.size + 1) := fun e => by have := h.lt e; omega
  have h0 : headOf f st 10 = 0 := headOf_no (by simp [isPtr])
  refine take_yes w sb 10 6 0 z fun w1 F1 T1 => ?_
  refine (datum_simple w1 (w.heap.size + 1) sb hb X sz tm n f st 10 1 20000 6 0 false none 0 0 ⟨#[]⟩ (h.fr F1 (fun _ _ e => e)) ((F1.cell hsl (fun e => e)).trans hS) T1 hX (by omega) (by decide) (by decide) (by decide) (by decide) (by rw [h0]; decide) (by rw [h0]; decide) (by rw [h0]; decide) (fun w2 H2 S2 => simple_ten w2 sb hb X sz tm n f st H2 S2)).mono fun e w' he => ?_
  exact ⟨_, he.1, Items.nil _ _ _, he.2.2⟩

end Go.Proofs.Ytenkidbimhmkbaa
