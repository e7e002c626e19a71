/-
  What is proved here: At (package feed).
-/
import Derived.Test.YtcefeclgehijpaaFTab
namespace Go.Proofs.Ytcefeclgehijpaa
open Go Go.RowKit

theorem at_none (w : World) (t r clock : Nat) (T : List PL) (h : TabAt w t r T clock) (p c : Int) (hf : fnd p c (T.map PL.e) 0 = none) :
    Calls Try.prog 16 #[.pointer (some ⟨t, 0, none⟩), .int .i64 p, .int .i64 c] w fun e w' => e = .returned (fdV p c 0 (-1)) ∧ Fr (fun _ => False) w w' := by
  have hA := h.same ((Fr.refl _ w).alloc (.cells #[.int .i64 0, .int .i64 0, .int .i64 0, .int .i64 0] 37))
  have l1 : (Instr.lookup 50 (.map (some r)) (.agg #[.int .i64 p, .int .i64 c]) true).run Try.prog (w.alloc (.cells #[.int .i64 0, .int .i64 0, .int .i64 0, .int .i64 0] 37)) = .ok (.tuple #[.pointer none, .bool false]) (w.alloc (.cells #[.int .i64 0, .int .i64 0, .int .i64 0, .int .i64 0] 37)) := by
    have := look_any hA.mp p c true
    rw [hf] at this
    exact this
  have c1 := hA.cell
  have K1 := hide (fun W => unseen_eq W p c)
  go_enter Try.func16, Try.ntmps16
  go_wp2_with (first
    | (go_at_call 24; refine (K1.out _).mono ?_; rintro e1 w2 ⟨rfl, rfl⟩; unfold fdV))
  refine bodyPost_ret (by simp [results, Try.results16, go_sem]; rfl) rfl ?_
  exact ⟨rfl, ((Fr.refl _ _).alloc _).alloc _⟩

theorem at_some (w : World) (t r clock : Nat) (T : List PL) (h : TabAt w t r T clock) (p c : Int) (i : Nat) (x : PL) (hx : x ∈ T) (hf : fnd p c (T.map PL.e) 0 = some (i, x.e)) :
    Calls Try.prog 16 #[.pointer (some ⟨t, 0, none⟩), .int .i64 p, .int .i64 c] w fun e w' => e = .returned (fdV x.e.p x.e.c x.m x.k) ∧ Fr (fun _ => False) w w' := by
  have hA := h.same ((Fr.refl _ w).alloc (.cells #[.int .i64 0, .int .i64 0, .int .i64 0, .int .i64 0] 37))
  have l1 : (Instr.lookup 50 (.map (some r)) (.agg #[.int .i64 p, .int .i64 c]) true).run Try.prog (w.alloc (.cells #[.int .i64 0, .int .i64 0, .int .i64 0, .int .i64 0] 37)) = .ok (.tuple #[.pointer (some ⟨x.e.a, 0, none⟩), .bool true]) (w.alloc (.cells #[.int .i64 0, .int .i64 0, .int .i64 0, .int .i64 0] 37)) := by
    have := look_any hA.mp p c true
    rw [hf] at this
    exact this
  have c1 := hA.cell
  have hp := hA.pl x hx
  have y0 := cell_of_row _ _ 0 _ _ _ hp
  have y1 := cell_of_row _ _ 1 _ _ _ hp
  have y2 := cell_of_row _ _ 2 _ _ _ hp
  have y3 := cell_of_row _ _ 3 _ _ _ hp
  simp only [PL.cells] at y0 y1 y2 y3
  simp at y0 y1 y2 y3
  go_enter Try.func16, Try.ntmps16
  go_wp2
  refine bodyPost_ret (by simp [results, Try.results16, go_sem]; rfl) rfl ?_
  exact ⟨rfl, (Fr.refl _ _).alloc _⟩

end Go.Proofs.Ytcefeclgehijpaa
