/-
  What is proved here: package value's Equal of two texts; Num of what is no number.
-/
import Derived.Test.YtchdfenickjiiaaVEqual
import Derived.Test.YtchdfenickjiiaaVDat
namespace Go.Proofs.Ytchdfenickjiiaa
open Go Go.RowKit

set_option maxRecDepth 20000 in
set_option maxHeartbeats 2000000 in
theorem equalS_text (w : World) (sb hb : Nat) (X : Nat → Prop) (sz : Nat) (tm : Int) (n : Nat) (f : Nat → Nat) (st : Nat → Bool) (x y : Nat) (g : Nat → Nat) (len : Nat) (h : HeapAt w hb X sz tm n f st) (hS : w.cell? ⟨sb, 0, none⟩ = some (.pointer (some ⟨hb, 0, none⟩))) (hx : x < 18446744073709551616) (hy : y < 18446744073709551616) (hne : x ≠ y) (tx : TextAt f st x g len) (ty : TextAt f st y g len) :
    Calls Try.prog 40 #[.pointer (some ⟨sb, 0, none⟩), .int .u64 (x : Int), .int .u64 (y : Int)] w fun e w' => e = .returned (.tuple #[.bool true, .bool true]) ∧ Fr (fun _ => False) w w' := by
  obtain ⟨w1, hw1⟩ : ∃ w1, w1 = w.alloc (.cells #[.pointer (some ⟨sb, 0, none⟩), .int .i64 0] 130) := ⟨_, rfl⟩
  have F1 : Fr (fun _ => False) w w1 := by rw [hw1]; exact (Fr.refl _ w).alloc _
  have hsl : sb < w.heap.size := World.block_lt_of_cell? _ _ hS
  have C1 : CmpAt w1 w.heap.size sb 0 := by rw [hw1]; exact heap_alloc_new w _
  have K := equal_text w1 w.heap.size sb hb X sz tm n f st x y g len 0 (h.fr F1 (fun _ _ e => e)) ((F1.cell hsl (fun e => e)).trans hS) C1 (fun e => by have := h.lt e; omega) (by omega) hx hy hne tx ty (by decide) (by decide)
  have HF := hide F1
  have HK := hide K
  have HW := hide hw1
  clear K F1 C1 h hS hw1
  go_enter Try.func40, Try.ntmps40
  go_wp2_with fail
  rw [← HW.out]
  go_wp2_with (go_at_call 81; refine HK.out.mono ?_; rintro e w2 ⟨rfl, C2, F2⟩; have c1 := cell_of_row _ _ 1 _ _ _ C2; have HF2 := hide F2; clear C2 F2)
  go_ret2
  exact ⟨rfl, Fr.trans HF.out HF2.out (fun k hk e => by omega)⟩

set_option maxRecDepth 20000 in
set_option maxHeartbeats 2000000 in
theorem num_no (w : World) (sb hb : Nat) (X : Nat → Prop) (sz : Nat) (tm : Int) (n : Nat) (f : Nat → Nat) (st : Nat → Bool) (x : Nat) (h : HeapAt w hb X sz tm n f st) (hS : w.cell? ⟨sb, 0, none⟩ = some (.pointer (some ⟨hb, 0, none⟩))) (hx : x < 18446744073709551616) (hk : hKind (headOf f st x) ≠ 5) (h4 : x % 4 ≠ 1) :
    Calls Try.prog 27 #[.pointer (some ⟨sb, 0, none⟩), .int .u64 (x : Int)] w fun e w' => e = .returned (.tuple #[.agg #[.bool false, .slice none 0 0], .bool false]) ∧ Fr (fun _ => False) w w' := by
  have KI := fun w1 => vint_any x w1 hx
  rw [if_neg h4] at KI
  have hsl : sb < w.heap.size := World.block_lt_of_cell? _ _ hS
  have KB := fun (w1 : World) (F1 : Fr (fun _ => False) w w1) => isBig_no w1 sb hb X sz tm n f st x (h.fr F1 (fun _ _ e => e)) ((F1.cell hsl (fun e => e)).trans hS) hx hk
  have HB := hide KB
  clear KB h hS
  go_enter Try.func27, Try.ntmps27
  go_wp2_with (first
    | (go_at_call 12; refine (KI _).mono ?_; rintro e w1 ⟨rfl, hw⟩; replace hw := hw.symm; subst hw)
    | (go_at_call 66; refine (HB.out _ ((Fr.refl _ w).alloc _)).mono ?_; rintro e w2 ⟨rfl, q2, rfl⟩))
  have b0 : ((w.alloc (.cells #[.bool false, .slice none 0 0] 45)).drewN q2).heap[w.heap.size]? = some (.cells #[.bool false, .slice none 0 0] 45 (0, 0)) := heap_alloc_new w _
  obtain ⟨b1, F1⟩ := stoF2 b0 (.bool false) (.slice none 0 0)
  have FF : Fr (fun _ => False) w _ := Fr.trans (((Fr.refl _ w).alloc (.cells #[.bool false, .slice none 0 0] 45)).drewN q2) F1 (fun k hk e => by omega)
  generalize ((((w.alloc (.cells #[.bool false, .slice none 0 0] 45)).drewN q2).setCell ⟨w.heap.size, 0, none⟩ (.bool false)).setCell ⟨w.heap.size, 1, none⟩ (.slice none 0 0)) = wf at *
  have z := fz2 b1
  refine bodyPost_ret (by simp [results, Try.results27, go_sem, z.2.2.1, z.2.2.2]; rfl) rfl ?_
  exact ⟨rfl, FF⟩

end Go.Proofs.Ytchdfenickjiiaa
