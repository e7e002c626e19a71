/-
  What is proved here: package value's room, and which words may be set.
-/
import Derived.Test.YtchdfenickjiiaaVLeaf
import Derived.BigQuiet
namespace Go.Proofs.Ytchdfenickjiiaa
open Go Go.RowKit

set_option maxRecDepth 20000 in
theorem room_any (w : World) (sb hb : Nat) (X : Nat → Prop) (sz : Nat) (tm : Int) (n : Nat) (f : Nat → Nat) (st : Nat → Bool) (h : HeapAt w hb X sz tm n f st) (hS : w.cell? ⟨sb, 0, none⟩ = some (.pointer (some ⟨hb, 0, none⟩))) :
    Calls Try.prog 48 #[.pointer (some ⟨sb, 0, none⟩)] w fun e w' => e = .returned (.int .i64 ((sz : Int) - (n : Int))) ∧ ∃ q, w' = w.drewN q := by
  have hz := h.good.2.2
  have HH := hide h
  clear h
  go_enter Try.func48, Try.ntmps48
  go_wp2
  go_quiet ((first
    | (go_at_call 85; exact Calls.quiet_of_same (size_any _ hb X sz tm n f st (HH.out.drewN _)))
    | (go_at_call 20; exact Calls.quiet_of (used_any _ hb X sz tm n f st (HH.out.drewN _)))))
  go_wp2
  go_ret
  exact ⟨rfl, _, rfl⟩

set_option maxRecDepth 20000 in
set_option maxHeartbeats 2000000 in
/-- All the words may be set. -/
theorem maySet_yes (w : World) (sb hb : Nat) (X : Nat → Prop) (sz : Nat) (tm : Int) (n : Nat) (f : Nat → Nat) (st : Nat → Bool) (ao : Option Addr) (l cap : Nat) (r : Nat → Nat) (h : HeapAt w hb X sz tm n f st) (hS : w.cell? ⟨sb, 0, none⟩ = some (.pointer (some ⟨hb, 0, none⟩))) (hr : Rd .u64 w ao l r) (hl : l ≤ 17592186044416) (hrl : ∀ k, k < l → r k < 18446744073709551616) (hm : ∀ k, k < l → may st (r k) = true) :
    Calls Try.prog 73 #[.pointer (some ⟨sb, 0, none⟩), .slice ao l cap] w fun e w' => e = .returned (.bool true) ∧ ∃ q, w' = w.drewN q := by
  have HH := hide h
  have HR := hide hr
  have HL := hide hrl
  have HM := hide hm
  clear h hr hrl hm
  go_enter Try.func73, Try.ntmps73
  go_wp2
  go_loopw [10] (fun a10 wr => ∃ k : Nat, k ≤ l ∧ a10 = .int .i64 (k : Int) ∧ ∃ q, wr = w.drewN q) (fun a10 _ => l - (intOf a10).toNat)
  case atStart => exact ⟨0, Nat.zero_le _, rfl, 0, rfl⟩
  case round =>
    obtain ⟨k, hk, rfl, q, rfl⟩ := hrel
    by_cases hlt : k < l
    · obtain ⟨b, off, rfl, hc⟩ : ∃ b off, ao = some ⟨b, off, none⟩ ∧ ∀ i, i < l → w.cell? ⟨b, off + i, none⟩ = some (.int .u64 (r i)) := by
        rcases HR.out with e | e
        · omega
        · exact e
      have cx := hc k hlt
      have hmy := HM.out k hlt
      have hxl := HL.out k hlt
      generalize r k = x at *
      have hand := and_2 x hxl
      have hkI : (k : Int) < (l : Int) := by omega
      have hx4 : x % 4 = 0 ∨ x % 4 = 1 ∨ x % 4 = 2 ∨ x % 4 = 3 := by omega
      clear hc
      rcases hx4 with h4 | h4 | h4 | h4
      · have hp : isPtr st x = true := by rw [may_0 h4] at hmy; exact hmy
        rw [h4] at hand
        have HI := hide hp
        have Hxl := hide hxl
        clear h4 hmy hp
        go_wp2_with (go_at_call 108; refine (is_any _ hb X sz tm n f st x (HH.out.drewN _) Hxl.out).mono ?_; rw [HI.out]; rintro e w2 ⟨rfl, q2, rfl⟩)
        refine ⟨⟨k + 1, by omega, by go_num, q + q2, by simp⟩, ?_⟩
        simp [intOf]
        omega
      · rw [h4] at hand
        clear h4 hmy
        go_wp2
        refine ⟨⟨k + 1, by omega, by go_num, q, rfl⟩, ?_⟩
        simp [intOf]
        omega
      · rw [h4] at hand
        clear h4 hmy
        go_wp2
        refine ⟨⟨k + 1, by omega, by go_num, q, rfl⟩, ?_⟩
        simp [intOf]
        omega
      · rw [may_3 h4] at hmy
        cases hmy
    · go_wp2
      go_ret
      exact ⟨rfl, q, rfl⟩

end Go.Proofs.Ytchdfenickjiiaa
