/-
  What is proved here: package value's Text where there is no room.
-/
import Derived.Test.YtenkidbimhmkbaaVList
import Derived.Deep.RegionHeld3
import Derived.Deep.CutRange
namespace Go.Proofs.Ytenkidbimhmkbaa
open Go Go.RowKit Go.Shelf

set_option maxRecDepth 100000 in
set_option maxHeartbeats 1000000 in
theorem text_full (w : World) (sb hb : Nat) (X : Nat → Prop) (sz : Nat) (tm : Int) (n : Nat) (f : Nat → Nat) (st : Nat → Bool) (ao : Option Addr) (len cp : Nat) (h : HeapAt w hb X sz tm n f st) (hS : w.cell? ⟨sb, 0, none⟩ = some (.pointer (some ⟨hb, 0, none⟩))) (hl8 : len ≤ 140737488355328) (hroom : sz < n + 1 + 0 + (1 + (len + 7) / 8)) :
    Calls Try.prog 17 #[.pointer (some ⟨sb, 0, none⟩), .slice ao len cp] w fun e w' => e = .returned (.tuple #[.int .u64 0, .bool false]) ∧ Fr (fun _ => False) w w' := by
  refine (callsIn_wide (n := 4)).1 ?_
  refine callsIn_of_wp_marks Try.func17 rfl trivial ?_ rfl
  simp only [Try.ntmps17, List.size_toArray, List.length_cons, List.length_nil, Nat.reduceAdd, Nat.reduceSub, Array.replicate_succ, Array.replicate_zero, List.push_toArray, List.append_toArray, List.nil_append, List.cons_append]
  refine wpIn_wide.2 ?_
  go_wp2
  have hsl : sb < w.heap.size := World.block_lt_of_cell? _ _ hS
  obtain ⟨N, hN⟩ : ∃ N, N = 1 + (len + 7) / 8 := ⟨_, rfl⟩
  have KT := fun w1 => textRaws_any len w1 hl8
  rw [← hN] at KT hroom
  have c0 : (w.alloc (.cells #[.pointer (some ⟨sb, 0, none⟩)] 31)).cell? ⟨w.heap.size, 0, none⟩ = some (.pointer (some ⟨sb, 0, none⟩)) := cell_of_row _ _ _ _ _ _ (heap_alloc_new w _)
  have c1 : (w.alloc (.cells #[.pointer (some ⟨sb, 0, none⟩)] 31)).cell? ⟨sb, 0, none⟩ = some (.pointer (some ⟨hb, 0, none⟩)) := (((Fr.refl (fun _ => False) w).alloc _).cell hsl (fun e => e)).trans hS
  obtain ⟨W0, hW0⟩ : ∃ W0, W0 = w.alloc (.cells #[.pointer (some ⟨sb, 0, none⟩)] 31) := ⟨_, rfl⟩
  have F0 : Fr (fun _ => False) w W0 := by rw [hW0]; exact (Fr.refl _ w).alloc _
  have HKA : Hid (∀ w1, Fr (fun _ => False) W0 w1 → Calls Try.prog 51 #[.pointer (some ⟨hb, 0, none⟩), .int .i64 3, .int .i64 0, .int .i64 (N : Int)] w1 fun e w2 => e = .returned (.tuple #[.int .u64 0, .bool false]) ∧ w2.cell? ⟨w.heap.size, 0, none⟩ = some (.pointer (some ⟨sb, 0, none⟩)) ∧ w2.cell? ⟨sb, 0, none⟩ = some (.pointer (some ⟨hb, 0, none⟩)) ∧ (w1.heap[W0.heap.size]? = some (.cells #[.int .u64 0] 22 (0, 0)) → w2.heap[W0.heap.size]? = some (.cells #[.int .u64 0] 22 (0, 0))) ∧ Fr (fun _ => False) w w2) := hide fun w1 hF => (alloc_no w1 hb X sz tm n f st 3 0 N ((h.fr F0 (fun _ _ e => e)).fr hF (fun _ _ e => e)) (by decide) (by decide) hroom).mono fun e w2 he => by
    obtain ⟨e1, q, e2⟩ := he
    have F2 : Fr (fun _ => False) W0 w2 := by rw [e2]; exact hF.drewN q
    have hs0 : w.heap.size < W0.heap.size := by rw [hW0]; simp
    exact ⟨e1, (F2.cell hs0 (fun e => e)).trans (by rw [hW0]; exact c0), (F2.cell (by omega) (fun e => e)).trans (by rw [hW0]; exact c1), fun hh => by rw [e2]; exact hh, Fr.trans F0 F2 (fun _ _ e => e)⟩
  have s0 : W0.heap.size = w.heap.size + 1 := by rw [hW0]; simp
  have n1 : W0.heap.size ≠ w.heap.size := by omega
  have n2 : W0.heap.size ≠ sb := by omega
  rw [← hW0] at c0 c1 ⊢
  have HF0 := hide F0
  have HS0 := hide s0
  clear h hN hW0 F0 s0
  go_region_held3 (fun w' => w'.cell? ⟨w.heap.size, 0, none⟩ = some (.pointer (some ⟨sb, 0, none⟩)) ∧ w'.cell? ⟨sb, 0, none⟩ = some (.pointer (some ⟨hb, 0, none⟩))) (go_keep)
    (first
      | (go_at_call 47; refine (KT _).mono ?_; rintro e w1 ⟨rfl, hw⟩; replace hw := hw.symm; subst hw)
      | (go_at_call 51; refine (HKA.out _ ?_).mono ?_; (first | exact (Fr.refl _ W0).drew | exact ((Fr.refl _ W0).drew).alloc _); rintro e w2 ⟨rfl, d0, d1, dp, F2⟩; (first | (have dq := dp (heap_alloc_new W0.drew _); have cp := cell_of_row w2 W0.heap.size 0 _ _ _ dq; have fz := frozen_of_row w2 W0.heap.size 0 _ _ dq; have e0 := fun x => (Fr.cell (Fr.setCell (S := fun k => k = W0.heap.size) (Fr.refl _ w2) (g := W0.heap.size) (fun _ => rfl) 0 x) (b := w.heap.size) (o := 0) (World.block_lt_of_cell? _ _ d0) (fun e => n1 e.symm)).trans d0; have e1 := fun x => (Fr.cell (Fr.setCell (S := fun k => k = W0.heap.size) (Fr.refl _ w2) (g := W0.heap.size) (fun _ => rfl) 0 x) (b := sb) (o := 0) (World.block_lt_of_cell? _ _ d1) (fun e => n2 e.symm)).trans d1; clear dq dp) | clear dp); have HF2 := hide F2; clear F2))
  all_goals
    go_wp2_with fail
    refine ⟨_, results_tmp2 rfl _ _ _, rfl, ?_⟩
    first
      | exact HF2.out.alloc _
      | exact HF2.out.setCell (fun hh => by have := HS0.out; omega) _ _

end Go.Proofs.Ytenkidbimhmkbaa
