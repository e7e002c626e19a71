/-
  What is proved here: tandemlaw00's SameWords of two lists that are the same.
-/
import Derived.Test.YtenkidbimhmkbaaHHeap6
namespace Go.Proofs.Ytenkidbimhmkbaa
open Go Go.RowKit

set_option maxHeartbeats 1000000 in
theorem sameW_any (ao bo : Option Addr) (n capa capb : Nat) (f : Nat → Nat) (w : World) (ha : Rd .u64 w ao n f) (hb : Rd .u64 w bo n f) (hn : n ≤ 9223372036854775807) :
    Calls Try.prog 33 #[.slice ao n capa, .slice bo n capb] w fun e w' => e = .returned (.bool true) ∧ Fr (fun _ => False) w w' := by
  have hne : ((n : Int) != (n : Int)) = false := by simp
  have HA := hide ha
  have HB := hide hb
  clear ha hb
  go_enter Try.func33, Try.ntmps33
  go_wp2
  go_loopw [5] (fun t wr => ∃ k : Nat, k ≤ n ∧ t = .int .i64 k ∧ Fr (fun _ => False) w wr) (fun t _ => n - (intOf t).toNat)
  case atStart => exact ⟨0, Nat.zero_le _, rfl, Fr.refl _ _⟩
  case round =>
    obtain ⟨k, hk, rfl, hF⟩ := hrel
    by_cases hlt : k < n
    · obtain ⟨b, off, rfl, hca⟩ : ∃ b off, ao = some ⟨b, off, none⟩ ∧ ∀ i, i < n → w.cell? ⟨b, off + i, none⟩ = some (.int .u64 (f i)) := by
        rcases HA.out with e | e
        · omega
        · exact e
      obtain ⟨b', off', rfl, hcb⟩ : ∃ b off, bo = some ⟨b, off, none⟩ ∧ ∀ i, i < n → w.cell? ⟨b, off + i, none⟩ = some (.int .u64 (f i)) := by
        rcases HB.out with e | e
        · omega
        · exact e
      have hx := (hF.cell (o := off + k) (World.block_lt_of_cell? _ _ (hca k hlt)) (fun e => e)).trans (hca k hlt)
      have hy := (hF.cell (o := off' + k) (World.block_lt_of_cell? _ _ (hcb k hlt)) (fun e => e)).trans (hcb k hlt)
      have HF := hide hF
      generalize f k = x at *
      clear hca hcb hF
      have hb : ((x : Int) != (x : Int)) = false := by simp
      go_wp2
      go_region
      all_goals go_wp2
      all_goals go_roundw
      case rel => exact ⟨k + 1, by omega, by go_num, HF.out.drew⟩
      case measure => simp [intOf]; omega
    · go_wp2
      go_ret
      exact ⟨rfl, hF⟩

end Go.Proofs.Ytenkidbimhmkbaa
