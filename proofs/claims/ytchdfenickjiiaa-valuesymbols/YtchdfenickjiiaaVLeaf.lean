/-
  What is proved here: package value's leaves: how many words a text has, and a word of up to eight bytes.
-/
import Derived.Test.YtchdfenickjiiaaVFix
namespace Go.Proofs.Ytchdfenickjiiaa
open Go Go.RowKit

theorem textRaws_any (l : Nat) (w : World) (h : l ≤ 140737488355328) :
    Calls Try.prog 47 #[.int .i64 (l : Int)] w fun e w' => e = .returned (.int .i64 ((1 + (l + 7) / 8 : Nat) : Int)) ∧ w' = w := by
  have e1 : ((l : Int) + 8 - 1).tdiv 8 = (((l + 7) / 8 : Nat) : Int) := by rw [Int.tdiv_eq_ediv_of_nonneg (by omega)]; omega
  go_enter Try.func47, Try.ntmps47
  go_wp2
  go_ret
  refine ⟨retI ?_, rfl⟩
  omega

theorem packed_step (g : Nat → Nat) (x k : Nat) (hg : ∀ i, i < k → g i < 256) (hx : x < 256) (hk : k ≤ 7) : bits BinOp.or IntKind.u64 (num 256 g k : Int) (IntKind.u64.wrap ((x : Int) * 2 ^ (8 * k))) = ((num 256 g k + x * 256 ^ k : Nat) : Int) := by
  have e : (256 : Nat) ^ k = 2 ^ (8 * k) := by rw [Nat.pow_mul]
  have h1 := num_lt (B := 256) (f := g) (n := k) hg
  rw [e] at h1 ⊢
  have h2 : (2 : Nat) ^ (8 * k) ≤ 2 ^ 56 := Nat.pow_le_pow_right (by decide) (by omega)
  have h3 : x * 2 ^ (8 * k) ≤ 255 * 2 ^ 56 := Nat.mul_le_mul (by omega) h2
  have h4 : x * 2 ^ (8 * k) < 18446744073709551616 := by
    have : 255 * 2 ^ 56 < 18446744073709551616 := by decide
    omega
  have h5 : num 256 g k < 18446744073709551616 := by
    have : (2 : Nat) ^ 56 < 18446744073709551616 := by decide
    omega
  have e2 : (x : Int) * 2 ^ (8 * k) = ((x * 2 ^ (8 * k) : Nat) : Int) := by push_cast; rfl
  have e3 : IntKind.u64.wrap ((x * 2 ^ (8 * k) : Nat) : Int) = ((x * 2 ^ (8 * k) : Nat) : Int) := by rw [u64w]; omega
  rw [e2, e3, u64_or_nat _ _ h5 h4, Nat.or_comm, nat_join (8 * k) _ _ (Nat.mul_mod_left _ _) h1, Nat.add_comm]

set_option maxRecDepth 20000 in
set_option maxHeartbeats 2000000 in
/-- A word of up to eight bytes, the lowest first. -/
theorem packed_any (b off c cap : Nat) (g : Nat → Nat) (w : World) (hc : c ≤ 8) (_hcc : c ≤ cap) (hg : ∀ i, i < c → g i < 256) (h : ∀ i, i < c → w.cell? ⟨b, off + i, none⟩ = some (.int .u8 (g i : Int))) :
    Calls Try.prog 54 #[.slice (some ⟨b, off, none⟩) c cap] w fun e w' => e = .returned (.int .u64 (num 256 g c : Int)) ∧ w' = w := by
  have H := hide h
  have HG := hide hg
  clear h hg
  go_enter Try.func54, Try.ntmps54
  go_wp2
  go_loopw [3, 8] (fun a3 a8 wr => ∃ k : Nat, k ≤ c ∧ a8 = .int .i64 (k : Int) ∧ a3 = .int .u64 (num 256 g k : Int) ∧ wr = w) (fun _ a8 _ => c - (intOf a8).toNat)
  case atStart => exact ⟨0, Nat.zero_le _, rfl, rfl, rfl⟩
  case round =>
    obtain ⟨k, hk, rfl, rfl, hw⟩ := hrel
    replace hw := hw.symm
    subst hw
    by_cases hlt : k < c
    · have cx := H.out k hlt
      have gx := HG.out k hlt
      obtain ⟨x, hx⟩ : ∃ x, x = g k := ⟨_, rfl⟩
      rw [← hx] at cx gx
      have HX := hide hx
      clear hx
      have hkI : (k : Int) < (c : Int) := by omega
      have hk7 : k ≤ 7 := by omega
      have hw := packed_step g x k (fun i hi => HG.out i (by omega)) gx hk7
      have HW := hide hw
      clear hw
      go_wp2
      refine ⟨⟨k + 1, by omega, by go_num, ?_, trivial⟩, ?_⟩
      · rw [HW.out, num_succ, HX.out]
      · simp [intOf]
        omega
    · have hkE : c = k := by omega
      subst hkE
      go_wp2
      go_ret
      exact ⟨rfl, rfl⟩

end Go.Proofs.Ytchdfenickjiiaa
