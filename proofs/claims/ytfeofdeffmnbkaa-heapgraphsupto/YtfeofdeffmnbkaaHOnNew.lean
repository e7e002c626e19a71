/-
  What is proved here: tandemlaw03's New: both heaps, or neither.
-/
import Derived.Test.YtfeofdeffmnbkaaHOn
namespace Go.Proofs.Ytfeofdeffmnbkaa
open Go Go.RowKit

theorem onnew_bad (z : Int) (w : World) (h : z < 2 ∨ 1048576 < z) :
    Calls Try.prog 11 #[.int .i64 z] w fun e w' => ∃ ob, e = .returned (.tuple #[.pointer (some ⟨ob, 0, none⟩), .bool true]) ∧ w'.cell? ⟨ob, 0, none⟩ = some (.pointer none) ∧ Fr (fun _ => False) w w' := by
  have K1 := fun w1 => new_bad z w1 h
  have K2 := fun w1 => rnew_bad z w1 h
  clear h
  go_enter Try.func11, Try.ntmps11
  go_wp2_with (first
    | (go_at_call 23; refine (K1 _).mono ?_; rintro e w' ⟨rfl, hw⟩; replace hw := hw.symm; subst hw)
    | (go_at_call 35; refine (K2 _).mono ?_; rintro e w' ⟨rfl, hw⟩; replace hw := hw.symm; subst hw))
  go_ret2
  refine ⟨w.heap.size, rfl, ?_, (Fr.refl _ _).alloc _⟩
  rw [cell_of_row _ _ _ _ _ _ (heap_alloc_new w _)]
  rfl

set_option maxHeartbeats 1000000 in
theorem onnew_ok (z : Nat) (w : World) (h1 : 2 ≤ z) (h2 : z ≤ 1048576) :
    Calls Try.prog 11 #[.int .i64 (z : Int)] w fun e w' => ∃ ob hb X rb Y, e = .returned (.tuple #[.pointer (some ⟨ob, 0, none⟩), .bool true]) ∧ OnIn w' ob hb X rb Y (.slice none 0 0) z 0 1 (fun _ => 0) (fun _ => false) 0 (fun _ => 0) ∧ (∀ k, X k → w.heap.size ≤ k) ∧ (∀ k, Y k → w.heap.size ≤ k) ∧ w.heap.size ≤ ob ∧ Fr (fun _ => False) w w' := by
  have K1 := fun w1 => new_ok z w1 h1 h2
  have K2 := fun w1 => rnew_ok z w1 h1 h2
  go_enter Try.func11, Try.ntmps11
  go_wp2_with (first
    | (go_at_call 23; refine (K1 _).mono ?_; rintro e w1 ⟨rfl, X, H1, X1, F1⟩; have HH1 := hide H1; have HX1 := hide X1; have HF1 := hide F1; clear H1 X1 F1 K1)
    | (go_at_call 35; refine (K2 _).mono ?_; rintro e w2 ⟨rfl, Y, R2, Y2, F2⟩; have HR2 := hide R2; have HY2 := hide Y2; have HF2 := hide F2; clear R2 Y2 F2 K2))
  go_ret2
  have H2 := HH1.out.fr HF2.out (fun _ _ e => e)
  have s1 := HF1.out.size
  have s2 := HF2.out.size
  have hXl : ∀ k, X k → k < w1.heap.size := fun k hk => HH1.out.lt hk
  have hYl : ∀ k, Y k → k < w2.heap.size := fun k hk => HR2.out.lt hk
  have FA : Fr (fun _ => False) w2 (w2.alloc (.cells #[.pointer (some ⟨w.heap.size, 0, none⟩), .pointer (some ⟨w1.heap.size + 1, 0, none⟩), .slice none 0 0] 30)) := (Fr.refl _ _).alloc _
  refine ⟨w2.heap.size, w.heap.size, X, w1.heap.size + 1, Y, rfl, ⟨heap_alloc_new w2 _, H2.fr FA (fun _ _ e => e), HR2.out.fr FA (fun _ _ e => e), .inl ⟨rfl, rfl⟩, fun e => ?_, fun e => ?_, (fun g hg => by cases hg), fun k hk e => ?_, fun i hi => by omega, by omega⟩, HX1.out, fun k hk => ?_, by omega, Fr.trans HF1.out (Fr.trans HF2.out FA (fun _ _ e => e)) (fun _ _ e => e)⟩
  · have := hXl _ e; omega
  · have := hYl _ e; omega
  · have h3 := hXl k hk
    have h4 := HY2.out k e
    omega
  · have := HY2.out k hk; omega

end Go.Proofs.Ytfeofdeffmnbkaa
