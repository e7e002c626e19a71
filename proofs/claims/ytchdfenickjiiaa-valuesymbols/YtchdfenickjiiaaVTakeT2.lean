/-
  What is proved here: package value's Take of a text: its bytes as a String.
-/
import Derived.Test.YtchdfenickjiiaaVTakeT
import Derived.Laws.BytesArg
namespace Go.Proofs.Ytchdfenickjiiaa
open Go Go.RowKit

/-- A string of these bytes. -/
def strG (g : Nat → Nat) (len : Nat) : ByteArray := strOfNums ((List.range len).map fun i => (g i : Int))
theorem conv_own {w : World} {g : Nat → Nat} {len : Nat} {b off cap : Nat} (h : ∀ i, i < len → w.cell? ⟨b, off + i, none⟩ = some (.int .u8 (g i : Int))) : (convert 38 9 (.slice (some ⟨b, off, none⟩) len cap)).run Try.prog w = .ok (.string (strG g len)) w :=
  run_convert_bytes_arg w 38 5 Try.underlying38 Try.underlying5 b off len cap _ (by simp) (fun i hi => by rw [h i hi]; simp [List.getD_eq_getElem?_getD, hi]) 9 Try.underlying9
theorem Own.cells8 {w : World} {base : Nat} {g : Nat → Nat} {len : Nat} {b cap : Nat} (h : Own .u8 5 w base (.slice (some ⟨b, 0, none⟩) len cap) len g) : ∀ i, i < len → w.cell? ⟨b, 0 + i, none⟩ = some (.int .u8 (g i : Int)) := fun i hi => by
  rcases h with ⟨e, _⟩ | ⟨b', cap', e, _, _, h3⟩
  · cases e
  · cases e
    rw [Nat.zero_add]
    exact h3.cell hi

def zeroD : Array Value := #[.int .i64 0, .int .i64 0, .bool false, .slice none 0 0, .string ⟨#[]⟩, .slice none 0 0, .slice none 0 0]

set_option maxRecDepth 20000 in
set_option maxHeartbeats 4000000 in
theorem simple_text (w : World) (sb hb : Nat) (X : Nat → Prop) (sz : Nat) (tm : Int) (n : Nat) (f : Nat → Nat) (st : Nat → Bool) (x : Nat) (g : Nat → Nat) (len : Nat) (h : HeapAt w hb X sz tm n f st) (hS : w.cell? ⟨sb, 0, none⟩ = some (.pointer (some ⟨hb, 0, none⟩))) (hx : x < 18446744073709551616) (tx : TextAt f st x g len) :
    Calls Try.prog 117 #[.pointer (some ⟨sb, 0, none⟩), .int .u64 (x : Int)] w fun e w' => e = .returned (.agg #[.int .i64 4, .int .i64 0, .bool false, .slice none 0 0, .string (strG g len), .slice none 0 0, .slice none 0 0]) ∧ Fr (fun _ => False) w w' := by
  have hsl : sb < w.heap.size := World.block_lt_of_cell? _ _ hS
  have KN := fun (w1 : World) (F1 : Fr (fun _ => False) w w1) => num_no w1 sb hb X sz tm n f st x (h.fr F1 (fun _ _ e => e)) ((F1.cell hsl (fun e => e)).trans hS) hx (by rw [tx.hd, hKind_of (by decide)]; decide) (by have := (isPtr_st tx.ptr).2; omega)
  have KB := fun (w1 : World) (F1 : Fr (fun _ => False) w w1) => bytes_yes w1 sb hb X sz tm n f st x g len (h.fr F1 (fun _ _ e => e)) ((F1.cell hsl (fun e => e)).trans hS) hx tx
  have HN := hide KN
  have HB := hide KB
  clear KN KB h hS tx
  go_enter Try.func117, Try.ntmps117
  go_wp2_with (first
    | (go_at_call 27; refine (HN.out _ ((Fr.refl _ w).alloc _)).mono ?_; rintro e w1 ⟨rfl, F1⟩; have HF1 := hide F1; clear F1)
    | (go_at_call 39; refine (HB.out _ ((Fr.trans ((Fr.refl _ w).alloc _) HF1.out (fun _ _ e => e)).alloc _)).mono ?_; rintro e w2 ⟨v, rfl, O2, ⟨b, cap, rfl, hbc⟩, F2⟩; have kc := conv_own (cap := cap) (Own.cells8 O2); have FA := Fr.trans ((Fr.trans (Fr.refl (fun _ => False) (w.alloc (.cells zeroD 73))) HF1.out (fun _ _ e => e)).alloc _) F2 (fun _ _ e => e); have b2 : w2.heap[w.heap.size]? = some (.cells zeroD 73 (0, 0)) := (FA.block _ (by simp) (fun e => e)).trans (heap_alloc_new w _); obtain ⟨d0, d1, d2, d3, d4, d5, d6⟩ := cells7 b2; obtain ⟨z0, z1, z2, z3, z4, z5, z6⟩ := frozen7 b2; have HB2 := hide b2; have HFA : Hid (Fr (fun _ => False) w w2) := hide (Fr.trans ((Fr.refl _ w).alloc _) FA (fun _ _ e => e)); clear O2 F2 FA b2))
  obtain ⟨b3, F3⟩ := stoF7 HB2.out (.int .i64 4) (.int .i64 0) (.bool false) (.slice none 0 0) (.string (strG g len)) (.slice none 0 0) (.slice none 0 0)
  clear d0 d1 d2 d3 d4 d5 d6 z0 z1 z2 z3 z4 z5 z6 kc
  generalize (((((((w2.setCell ⟨w.heap.size, 0, none⟩ (.int .i64 4)).setCell ⟨w.heap.size, 1, none⟩ (.int .i64 0)).setCell ⟨w.heap.size, 2, none⟩ (.bool false)).setCell ⟨w.heap.size, 3, none⟩ (.slice none 0 0)).setCell ⟨w.heap.size, 4, none⟩ (.string (strG g len))).setCell ⟨w.heap.size, 5, none⟩ (.slice none 0 0)).setCell ⟨w.heap.size, 6, none⟩ (.slice none 0 0)) = wf at *
  obtain ⟨d0, d1, d2, d3, d4, d5, d6⟩ := cells7 b3
  refine bodyPost_ret (by simp [results, Try.results117, go_sem, d0, d1, d2, d3, d4, d5, d6]; rfl) rfl ?_
  exact ⟨rfl, Fr.trans HFA.out F3 (fun k hk e => by omega)⟩

/-- A taking at the block tb: the store, and how many parts may still come. -/
def TakAt (w : World) (tb sb : Nat) (s : Int) : Prop := w.heap[tb]? = some (.cells #[.pointer (some ⟨sb, 0, none⟩), .int .i64 s] 126 (0, 0))

set_option maxRecDepth 20000 in
set_option maxHeartbeats 4000000 in
/-- What is neither a pair, a vector nor a condition is simple. -/
theorem datum_simple (w : World) (tb sb hb : Nat) (X : Nat → Prop) (sz : Nat) (tm : Int) (n : Nat) (f : Nat → Nat) (st : Nat → Bool) (x : Nat) (d s k m : Int) (b : Bool) (a3 : Option Addr) (l3 c3 : Nat) (t : ByteArray) (h : HeapAt w hb X sz tm n f st) (hS : w.cell? ⟨sb, 0, none⟩ = some (.pointer (some ⟨hb, 0, none⟩))) (hT : TakAt w tb sb s) (htX : ¬ X tb) (hts : tb ≠ sb) (hx : x < 18446744073709551616) (hd : d ≤ 100) (hs0 : 0 < s) (hs1 : s ≤ 20000)
    (n1 : shapeB (headOf f st x) 1 2 0 = false) (n2 : shapeB (headOf f st x) 2 (hTag (headOf f st x) : Int) 0 = false) (n3 : shapeB (headOf f st x) 9 3 0 = false)
    (KS : ∀ w1, HeapAt w1 hb X sz tm n f st → w1.cell? ⟨sb, 0, none⟩ = some (.pointer (some ⟨hb, 0, none⟩)) → Calls Try.prog 117 #[.pointer (some ⟨sb, 0, none⟩), .int .u64 (x : Int)] w1 fun e w' => e = .returned (.agg #[.int .i64 k, .int .i64 m, .bool b, .slice a3 l3 c3, .string t, .slice none 0 0, .slice none 0 0]) ∧ Fr (fun _ => False) w1 w') :
    Calls Try.prog 78 #[.pointer (some ⟨tb, 0, none⟩), .int .i64 d, .int .u64 (x : Int)] w fun e w' => e = .returned (.tuple #[.agg #[.int .i64 k, .int .i64 m, .bool b, .slice a3 l3 c3, .string t, .slice none 0 0, .slice none 0 0], .bool true]) ∧ TakAt w' tb sb (s - 1) ∧ Fr (fun k => k = tb) w w' := by
  have hsl : sb < w.heap.size := World.block_lt_of_cell? _ _ hS
  have htl : tb < w.heap.size := (Array.getElem?_eq_some_iff.1 hT).1
  have c0 := cell_of_row w tb 0 _ _ _ hT
  have c1 := cell_of_row w tb 1 _ _ _ hT
  have fz := frozen_of_row w tb 1 _ _ hT
  have F1 : Fr (fun k => k = tb) w (w.setCell ⟨tb, 1, none⟩ (.int .i64 (s - 1))) := Fr.setCell (S := fun k => k = tb) (Fr.refl _ _) (fun _ => rfl) _ _
  have s1 : (w.setCell ⟨tb, 1, none⟩ (.int .i64 (s - 1))).heap.size = w.heap.size := by simp [World.setCell]
  have T0 : TakAt (w.setCell ⟨tb, 1, none⟩ (.int .i64 (s - 1))) tb sb (s - 1) := heap_setCell_same w tb 1 _ _ _ hT
  obtain ⟨W1, hW1⟩ : ∃ W1, W1 = (w.setCell ⟨tb, 1, none⟩ (.int .i64 (s - 1))).alloc (.cells #[.int .i64 0, .int .i64 0, .bool false, .slice none 0 0, .string ⟨#[]⟩, .slice none 0 0, .slice none 0 0] 73) := ⟨_, rfl⟩
  have F2 : Fr (fun _ => False) (w.setCell ⟨tb, 1, none⟩ (.int .i64 (s - 1))) W1 := by rw [hW1]; exact (Fr.refl _ _).alloc _
  have B1 : W1.heap[w.heap.size]? = some (.cells #[.int .i64 0, .int .i64 0, .bool false, .slice none 0 0, .string ⟨#[]⟩, .slice none 0 0, .slice none 0 0] 73 (0, 0)) := by rw [hW1, ← s1]; exact heap_alloc_new _ _
  have T1 : TakAt W1 tb sb (s - 1) := (F2.block tb (by omega) (fun e => e)).trans T0
  have FW : Fr (fun k => k = tb) w W1 := Fr.trans F1 F2 (fun _ _ e => e.elim)
  have e0 := cell_of_row W1 tb 0 _ _ _ T1
  have i0 := e0
  rw [hW1] at i0
  have H1 := h.fr FW (fun k hk e => htX (e ▸ hk))
  have S1 := (FW.cell (o := 0) hsl (fun e => hts e.symm)).trans hS
  have KP := isPair_any W1 sb hb X sz tm n f st x H1 S1 hx
  rw [n1] at KP
  have KV := fun q => isVec_any (W1.drewN q) sb hb X sz tm n f st x (H1.drewN q) S1 hx
  rw [n2] at KV
  have KC := fun q => isCond_any (W1.drewN q) sb hb X sz tm n f st x (H1.drewN q) S1 hx
  rw [n3] at KC
  have K5 := fun q => KS (W1.drewN q) (H1.drewN q) S1
  have hdI : ¬ (100 < d) := by omega
  have hsI : ¬ (s ≤ 0) := by omega
  have HP := hide KP
  have HV := hide KV
  have HC := hide KC
  have H5 := hide K5
  have HT1 := hide T1
  have HB1 := hide B1
  have HFW := hide FW
  have HW1 := hide hW1
  clear KP KV KC K5 KS T1 B1 FW F1 F2 H1 S1 h hS hT hW1 T0
  go_enter Try.func78, Try.ntmps78
  go_wp2_with fail
  rw [← HW1.out]
  clear c0 c1 i0 fz s1
  go_wp2_with (first
    | (go_at_call 111; refine HP.out.mono ?_; rintro e w2 ⟨rfl, q2, rfl⟩)
    | (go_at_call 113; refine (HV.out _).mono ?_; rintro e w3 ⟨rfl, q3, hq3⟩; replace hq3 : w3 = W1.drewN (q2 + q3) := (by rw [hq3]; simp); subst hq3)
    | (go_at_call 115; refine (HC.out _).mono ?_; rintro e w4 ⟨rfl, q4, hq4⟩; replace hq4 : w4 = W1.drewN (q2 + q3 + q4) := (by rw [hq4]; simp); subst hq4)
    | (go_at_call 117; refine (H5.out _).mono ?_; rintro e w5 ⟨rfl, F5⟩; have F5' : Fr (fun _ => False) W1 w5 := Fr.trans ((Fr.refl _ W1).drewN _) F5 (fun _ _ e => e); have b2 := (F5'.block _ (Array.getElem?_eq_some_iff.1 HB1.out).1 (fun e => e)).trans HB1.out; obtain ⟨d0, d1, d2, d3, d4, d5, d6⟩ := cells7 b2; obtain ⟨z0, z1, z2, z3, z4, z5, z6⟩ := frozen7 b2; have HB2 := hide b2; have HF5 := hide F5'; clear F5 F5' b2))
  obtain ⟨b3, F3⟩ := stoF7 HB2.out (.int .i64 k) (.int .i64 m) (.bool b) (.slice a3 l3 c3) (.string t) (.slice none 0 0) (.slice none 0 0)
  clear d0 d1 d2 d3 d4 d5 d6 z0 z1 z2 z3 z4 z5 z6
  generalize (((((((w5.setCell ⟨w.heap.size, 0, none⟩ (.int .i64 k)).setCell ⟨w.heap.size, 1, none⟩ (.int .i64 m)).setCell ⟨w.heap.size, 2, none⟩ (.bool b)).setCell ⟨w.heap.size, 3, none⟩ (.slice a3 l3 c3)).setCell ⟨w.heap.size, 4, none⟩ (.string t)).setCell ⟨w.heap.size, 5, none⟩ (.slice none 0 0)).setCell ⟨w.heap.size, 6, none⟩ (.slice none 0 0)) = wf at *
  obtain ⟨d0, d1, d2, d3, d4, d5, d6⟩ := cells7 b3
  refine bodyPost_ret (by simp [results, Try.results78, go_sem, d0, d1, d2, d3, d4, d5, d6]; rfl) rfl ?_
  have ht1 : tb < W1.heap.size := (Array.getElem?_eq_some_iff.1 HT1.out).1
  have l5 := HF5.out.size
  exact ⟨rfl, (F3.block tb (by omega) (by omega)).trans ((HF5.out.block tb ht1 (fun e => e)).trans HT1.out), Fr.trans (Fr.trans HFW.out HF5.out (fun _ _ e => e.elim)) F3 (fun k hk e => by omega)⟩

set_option maxRecDepth 20000 in
set_option maxHeartbeats 4000000 in
theorem take_text (w : World) (sb hb : Nat) (X : Nat → Prop) (sz : Nat) (tm : Int) (n : Nat) (f : Nat → Nat) (st : Nat → Bool) (x : Nat) (g : Nat → Nat) (len : Nat) (h : HeapAt w hb X sz tm n f st) (hS : w.cell? ⟨sb, 0, none⟩ = some (.pointer (some ⟨hb, 0, none⟩))) (hx : x < 18446744073709551616) (tx : TextAt f st x g len) :
    Calls Try.prog 36 #[.pointer (some ⟨sb, 0, none⟩), .int .u64 (x : Int), .int .i64 5] w fun e w' => e = .returned (.tuple #[.agg #[.int .i64 4, .int .i64 0, .bool false, .slice none 0 0, .string (strG g len), .slice none 0 0, .slice none 0 0], .bool true]) ∧ Fr (fun _ => False) w w' := by
  have hsl : sb < w.heap.size := World.block_lt_of_cell? _ _ hS
  obtain ⟨W1, hW1⟩ : ∃ W1, W1 = (w.alloc (.cells #[.int .i64 0, .int .i64 0, .bool false, .slice none 0 0, .string ⟨#[]⟩, .slice none 0 0, .slice none 0 0] 73)).alloc (.cells #[.pointer (some ⟨sb, 0, none⟩), .int .i64 5] 126) := ⟨_, rfl⟩
  have F1 : Fr (fun _ => False) w W1 := by rw [hW1]; exact ((Fr.refl _ w).alloc _).alloc _
  have B1 : W1.heap[w.heap.size]? = some (.cells #[.int .i64 0, .int .i64 0, .bool false, .slice none 0 0, .string ⟨#[]⟩, .slice none 0 0, .slice none 0 0] 73 (0, 0)) := by
    rw [hW1]
    exact (heap_alloc_old _ _ (r := w.heap.size) (by simp)).trans (heap_alloc_new w _)
  have T1 : TakAt W1 (w.heap.size + 1) sb 5 := by
    rw [hW1]
    have := heap_alloc_new (w.alloc (.cells #[.int .i64 0, .int .i64 0, .bool false, .slice none 0 0, .string ⟨#[]⟩, .slice none 0 0, .slice none 0 0] 73)) (.cells #[.pointer (some ⟨sb, 0, none⟩), .int .i64 5] 126)
    rw [World.size_alloc] at this
    exact this
  have hk : hKind (headOf f st x) = 3 := by rw [tx.hd, hKind_of (by decide)]
  have K := datum_simple W1 (w.heap.size + 1) sb hb X sz tm n f st x 1 5 4 0 false none 0 0 (strG g len) (h.fr F1 (fun _ _ e => e)) ((F1.cell hsl (fun e => e)).trans hS) T1 (fun e => by have := h.lt e; omega) (by omega) hx (by decide) (by decide) (by decide) (shapeB_kind (by omega)) (shapeB_kind (by omega)) (shapeB_kind (by omega)) (fun w1 h1 s1 => simple_text w1 sb hb X sz tm n f st x g len h1 s1 hx tx)
  have HK := hide K
  have HB1 := hide B1
  have HF1 := hide F1
  have HW1 := hide hW1
  clear K B1 F1 T1 hW1 h hS tx
  go_enter Try.func36, Try.ntmps36
  go_wp2_with fail
  rw [← HW1.out]
  go_wp2_with (go_at_call 78; refine HK.out.mono ?_; rintro e w5 ⟨rfl, T5, F5⟩; have b2 := (F5.block _ (Array.getElem?_eq_some_iff.1 HB1.out).1 (by omega)).trans HB1.out; obtain ⟨d0, d1, d2, d3, d4, d5, d6⟩ := cells7 b2; obtain ⟨z0, z1, z2, z3, z4, z5, z6⟩ := frozen7 b2; have HB2 := hide b2; have HF5 := hide F5; clear F5 b2 T5)
  obtain ⟨b3, F3⟩ := stoF7 HB2.out (.int .i64 4) (.int .i64 0) (.bool false) (.slice none 0 0) (.string (strG g len)) (.slice none 0 0) (.slice none 0 0)
  clear d0 d1 d2 d3 d4 d5 d6 z0 z1 z2 z3 z4 z5 z6
  generalize (((((((w5.setCell ⟨w.heap.size, 0, none⟩ (.int .i64 4)).setCell ⟨w.heap.size, 1, none⟩ (.int .i64 0)).setCell ⟨w.heap.size, 2, none⟩ (.bool false)).setCell ⟨w.heap.size, 3, none⟩ (.slice none 0 0)).setCell ⟨w.heap.size, 4, none⟩ (.string (strG g len))).setCell ⟨w.heap.size, 5, none⟩ (.slice none 0 0)).setCell ⟨w.heap.size, 6, none⟩ (.slice none 0 0)) = wf at *
  obtain ⟨d0, d1, d2, d3, d4, d5, d6⟩ := cells7 b3
  refine bodyPost_ret (by simp [results, Try.results36, go_sem, d0, d1, d2, d3, d4, d5, d6]; rfl) rfl ?_
  exact ⟨rfl, Fr.trans (Fr.trans HF1.out HF5.out (fun k hk e => by omega)) F3 (fun k hk e => by omega)⟩

end Go.Proofs.Ytchdfenickjiiaa
