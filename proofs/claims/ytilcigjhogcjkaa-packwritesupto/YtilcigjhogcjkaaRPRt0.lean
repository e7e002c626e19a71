/-
  What is proved here: tandemref10's right where it says no at once.
-/
import Derived.Test.YtilcigjhogcjkaaRPRight
namespace Go.Proofs.Ytilcigjhogcjkaa
open Go Go.RowKit

theorem LAt.cell {w : World} {cb c : Nat} (h : LAt w cb c) : w.cell? ⟨cb, 0, none⟩ = some (.int .i64 (c : Int)) := by
  rw [cell_of_row w cb 0 _ _ _ h]
  rfl
theorem LAt.free {w : World} {cb c : Nat} (h : LAt w cb c) : w.frozen? ⟨cb, 0, none⟩ = false := frozen_of_row _ _ _ _ _ h
theorem LAt.set {w : World} {cb c : Nat} (h : LAt w cb c) (d : Nat) : LAt (w.setCell ⟨cb, 0, none⟩ (.int .i64 (d : Int))) cb d := (heap_setCell_same w cb 0 _ _ _ h).trans rfl
theorem LAt.alloc {w : World} {cb c : Nat} (h : LAt w cb c) (o : Obj) : LAt (w.alloc o) cb c := (heap_alloc_old w o (r := cb) h.lt).trans h

set_option maxRecDepth 100000 in
set_option maxHeartbeats 2000000 in
theorem right_c0 (w : World) (cb k : Nat) (kk n : Int) (b : Bool) (t : ByteArray) (um ui ur : Value) (hL : LAt w cb 0) :
    Calls Try.prog 45 #[.pointer (some ⟨cb, 0, none⟩), .agg #[.int .i64 kk, .int .i64 n, .bool b, um, .string t, ui, ur], .int .i64 (k : Int)] w fun e w' => e = .returned (.bool false) ∧ Fr (fun j => j = cb) w w' := by
  have hA := hL.alloc (.cells #[.int .i64 kk, .int .i64 n, .bool b, um, .string t, ui, ur] 64)
  have x1 := hA.cell
  have x2 := hA.free
  clear hL hA
  go_enter Try.func45, Try.ntmps45
  go_wp2
  go_ret
  exact ⟨rfl, Fr.setCell (S := fun j => j = cb) ((Fr.refl _ _).alloc _) (fun _ => rfl) _ _⟩

/-- The world where a datum is looked at. -/
def rtW (w : World) (cb c : Nat) (kk n : Int) (b : Bool) (t : ByteArray) (um ui ur : Value) : World := (w.alloc (.cells #[.int .i64 kk, .int .i64 n, .bool b, um, .string t, ui, ur] 64)).setCell ⟨cb, 0, none⟩ (.int .i64 (c : Int))

set_option maxRecDepth 100000 in
set_option maxHeartbeats 2000000 in
theorem right_k (w : World) (cb c k : Nat) (kk n : Int) (b : Bool) (t : ByteArray) (um ui ur : Value) (hL : LAt w cb (c + 1)) (hc : c < 20000) (hk : 100 < k) (hk2 : k ≤ 101) :
    Calls Try.prog 45 #[.pointer (some ⟨cb, 0, none⟩), .agg #[.int .i64 kk, .int .i64 n, .bool b, um, .string t, ui, ur], .int .i64 (k : Int)] w fun e w' => e = .returned (.bool false) ∧ Fr (fun j => j = cb) w w' := by
  have hA := hL.alloc (.cells #[.int .i64 kk, .int .i64 n, .bool b, um, .string t, ui, ur] 64)
  have x1 := hA.cell
  have x2 := hA.free
  have x3 := (hA.set c).cell
  have e1 : ((c + 1 : Nat) : Int) - 1 = (c : Int) := by omega
  have e2 : ¬ ((c : Int) < 0) := by omega
  have e3 : (100 : Int) < (k : Int) := by omega
  clear hL hA
  go_enter Try.func45, Try.ntmps45
  go_wp2
  go_ret
  exact ⟨rfl, Fr.setCell (S := fun j => j = cb) ((Fr.refl _ _).alloc _) (fun _ => rfl) _ _⟩

end Go.Proofs.Ytilcigjhogcjkaa
