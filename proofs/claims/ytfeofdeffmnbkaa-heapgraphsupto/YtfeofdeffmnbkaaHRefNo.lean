/-
  What is proved here: the document's own heap: an object that may not be laid, or that has no room.
-/
import Derived.Test.YtfeofdeffmnbkaaHRef4
namespace Go.Proofs.Ytfeofdeffmnbkaa
open Go Go.RowKit

set_option maxHeartbeats 40000000 in
theorem ralloc_no (w : World) (rb : Nat) (Y : Nat → Prop) (sz : Nat) (tm : Int) (n : Nat) (f : Nat → Nat) (st : Nat → Bool) (k t r : Int) (h : RefAt w rb Y sz tm n f st) (hbad : k < 1 ∨ 63 < k ∨ t < 0 ∨ 1048576 < t ∨ r < 0 ∨ 1048576 < r ∨ (sz : Int) < (n : Int) + 1 + t + r) :
    Calls Try.prog 36 #[.pointer (some ⟨rb, 0, none⟩), .int .i64 k, .int .i64 t, .int .i64 r] w fun e w' => e = .returned (.tuple #[.int .u64 0, .bool false]) ∧ ∃ q, w' = w.drewN q := by
  obtain ⟨vW, vH, hn, hd, h⟩ := h
  have hc0 := h.cells.1
  have hc1 := h.cells.2.1
  have hnz := h.nz
  have hz := h.z
  obtain ⟨ao, cap, rfl⟩ := h.oW.shape
  clear h
  by_cases h1 : k < 1
  · have d1 : decide (k < 1) = true := by simp; omega
    clear hbad
    go_enter Try.func36, Try.ntmps36
    go_wp2
    go_quiet (fail)
    go_wp2
    go_ret2
    exact ⟨rfl, _, rfl⟩
  by_cases h2 : 63 < k
  · have d1 : decide (k < 1) = false := by simp; omega
    have d2 : decide (63 < k) = true := by simp; omega
    clear hbad
    go_enter Try.func36, Try.ntmps36
    go_wp2
    go_quiet (fail)
    go_wp2
    go_ret2
    exact ⟨rfl, _, rfl⟩
  by_cases h3 : t < 0
  · have d1 : decide (k < 1) = false := by simp; omega
    have d2 : decide (63 < k) = false := by simp; omega
    have d3 : decide (t < 0) = true := by simp; omega
    clear hbad
    go_enter Try.func36, Try.ntmps36
    go_wp2
    go_quiet (fail)
    go_wp2
    go_ret2
    exact ⟨rfl, _, rfl⟩
  by_cases h4 : 1048576 < t
  · have d1 : decide (k < 1) = false := by simp; omega
    have d2 : decide (63 < k) = false := by simp; omega
    have d3 : decide (t < 0) = false := by simp; omega
    have d4 : decide (1048576 < t) = true := by simp; omega
    clear hbad
    go_enter Try.func36, Try.ntmps36
    go_wp2
    go_quiet (fail)
    go_wp2
    go_ret2
    exact ⟨rfl, _, rfl⟩
  by_cases h5 : r < 0
  · have d1 : decide (k < 1) = false := by simp; omega
    have d2 : decide (63 < k) = false := by simp; omega
    have d3 : decide (t < 0) = false := by simp; omega
    have d4 : decide (1048576 < t) = false := by simp; omega
    have d5 : decide (r < 0) = true := by simp; omega
    clear hbad
    go_enter Try.func36, Try.ntmps36
    go_wp2
    go_quiet (fail)
    go_wp2
    go_ret2
    exact ⟨rfl, _, rfl⟩
  by_cases h6 : 1048576 < r
  · have d1 : decide (k < 1) = false := by simp; omega
    have d2 : decide (63 < k) = false := by simp; omega
    have d3 : decide (t < 0) = false := by simp; omega
    have d4 : decide (1048576 < t) = false := by simp; omega
    have d5 : decide (r < 0) = false := by simp; omega
    have d6 : decide (1048576 < r) = true := by simp; omega
    clear hbad
    go_enter Try.func36, Try.ntmps36
    go_wp2
    go_quiet (fail)
    go_wp2
    go_ret2
    exact ⟨rfl, _, rfl⟩
  have hfull : (sz : Int) < (n : Int) + 1 + t + r := by omega
  have hwr : ∀ a : Int, 0 ≤ a → a ≤ 33554432 → IntKind.i64.wrap a = a := fun a a0 a1 => by
    simp only [IntKind.wrap, IntKind.bits, IntKind.signed]
    simp
    omega
  have hw1 := hwr ((n : Int) + 1) (by omega) (by omega)
  have hw2 := hwr ((n : Int) + 1 + t) (by omega) (by omega)
  have hw3 := hwr ((n : Int) + 1 + t + r) (by omega) (by omega)
  have d1 : decide (k < 1) = false := by simp; omega
  have d2 : decide (63 < k) = false := by simp; omega
  have d3 : decide (t < 0) = false := by simp; omega
  have d4 : decide (1048576 < t) = false := by simp; omega
  have d5 : decide (r < 0) = false := by simp; omega
  have d6 : decide (1048576 < r) = false := by simp; omega
  have d7 : decide ((sz : Int) < (n : Int) + 1 + t + r) = true := by simp; omega
  clear hbad hwr
  go_enter Try.func36, Try.ntmps36
  go_wp2
  go_quiet (fail)
  go_wp2
  go_ret2
  exact ⟨rfl, _, rfl⟩

end Go.Proofs.Ytfeofdeffmnbkaa
