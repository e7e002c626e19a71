/-
  What is proved here: tandemref06's two, char.
-/
import Derived.Test.YtedhknfgliepeaaDoorSAwake
namespace Go.Proofs.YtedhknfgliepeaaDoor
open Go Go.RowKit

theorem hex_cut (k : Nat) (hk : k < 16) : (⟨#[48, 49, 50, 51, 52, 53, 54, 55, 56, 57, 97, 98, 99, 100, 101, 102]⟩ : ByteArray).extract k (k + 1) = ⟨#[hexd k]⟩ := by
  have : k = 0 ∨ k = 1 ∨ k = 2 ∨ k = 3 ∨ k = 4 ∨ k = 5 ∨ k = 6 ∨ k = 7 ∨ k = 8 ∨ k = 9 ∨ k = 10 ∨ k = 11 ∨ k = 12 ∨ k = 13 ∨ k = 14 ∨ k = 15 := by omega
  rcases this with rfl | rfl | rfl | rfl | rfl | rfl | rfl | rfl | rfl | rfl | rfl | rfl | rfl | rfl | rfl | rfl <;> decide

set_option maxHeartbeats 2000000 in
set_option maxRecDepth 100000 in
theorem rtwo_any (n : Int) (w : World) :
    Calls Tryd.prog 32 #[.int .i64 n] w fun e w' => e = .returned (.string ⟨(two (n % 256).toNat).toArray⟩) ∧ Up w w' := by
  obtain ⟨m, hm⟩ : ∃ m : Nat, m = (n % 256).toNat := ⟨_, rfl⟩
  have hm256 : m < 256 := by omega
  rw [← hm]
  have l0 : 0 ≤ (m : Int) % 16 := by omega
  have l1 : (m : Int) % 16 + 1 ≤ 16 := by omega
  have l2 : ((m : Int) % 16).toNat = m % 16 := by omega
  have l3 : ((m : Int) % 16 + 1).toNat = m % 16 + 1 := by omega
  have u0 : 0 ≤ (m : Int) / 16 := by omega
  have u1 : (m : Int) / 16 + 1 ≤ 16 := by omega
  have u2 : ((m : Int) / 16).toNat = m / 16 := by omega
  have u3 : ((m : Int) / 16 + 1).toNat = m / 16 + 1 := by omega
  have t1 : (m : Int).tdiv 16 = (m : Int) / 16 := Int.tdiv_eq_ediv_of_nonneg (by omega)
  have t2 : (m : Int).tmod 16 = (m : Int) % 16 := Int.tmod_eq_emod_of_nonneg (by omega)
  have x1 := hex_cut (m / 16) (by omega)
  have x2 := hex_cut (m % 16) (by omega)
  have hcase : (n.tmod 256 = (m : Int)) ∨ (n.tmod 256 < 0 ∧ n.tmod 256 + 256 = (m : Int)) := by
    rcases Int.lt_or_le n 0 with hn | hn
    · have h1 := Int.tmod_eq_emod (a := n) (b := 256)
      have h2 := Int.emod_lt_of_pos n (show (0 : Int) < 256 by decide)
      have h3 := Int.emod_nonneg n (show (256 : Int) ≠ 0 by decide)
      by_cases hd : (256 : Int) ∣ n
      · left
        have : n % 256 = 0 := Int.emod_eq_zero_of_dvd hd
        rw [h1]
        simp [hd]
        omega
      · right
        rw [h1]
        have hn' : ¬ 0 ≤ n := by omega
        simp [hd, hn']
        omega
    · left
      rw [Int.tmod_eq_emod_of_nonneg hn]
      omega
  unfold two
  have HM := hide hm
  clear hm
  have hmn : ¬ (m : Int) < 0 := by omega
  have w1 : IntKind.i64.wrap ((m : Int) / 16 + 1) = (m : Int) / 16 + 1 := by simp only [IntKind.wrap, IntKind.bits, IntKind.signed]; simp; omega
  have w2 : IntKind.i64.wrap ((m : Int) % 16 + 1) = (m : Int) % 16 + 1 := by simp only [IntKind.wrap, IntKind.bits, IntKind.signed]; simp; omega
  have v1 : (m : Int) / 16 ≤ (m : Int) / 16 + 1 := by omega
  have v2 : (m : Int) % 16 ≤ (m : Int) % 16 + 1 := by omega
  rcases hcase with hr | ⟨hr1, hr2⟩
  · go_enter Tryd.func32, Tryd.ntmps32
    go_wp2
    go_region
    all_goals (go_wp2; go_ret; exact ⟨rfl, up_drew w⟩)
  · generalize hr : n.tmod 256 = r at *
    have w3 : IntKind.i64.wrap (r + 256) = (m : Int) := by rw [hr2]; simp only [IntKind.wrap, IntKind.bits, IntKind.signed]; simp; omega
    have w4 : wrap64 (r + 256) = (m : Int) := by unfold wrap64; omega
    go_enter Tryd.func32, Tryd.ntmps32
    go_wp2
    go_region
    all_goals (go_wp2; go_ret; exact ⟨rfl, up_drew w⟩)

set_option maxHeartbeats 2000000 in
set_option maxRecDepth 100000 in
theorem rchar_any (n : Int) (hn : -9223372036854775808 ≤ n ∧ n ≤ 9223372036854775807) (w : World) :
    Calls Tryd.prog 20 #[.int .i64 n] w fun e w' => e = .returned (.string ⟨([35, 92] ++ chW n).toArray⟩) ∧ Up w w' := by
  have hu : (n % 256).toNat.toUInt8.toNat = (n % 256).toNat := by simp; omega
  unfold chW
  by_cases h1 : n = 32
  · subst h1
    go_enter Tryd.func20, Tryd.ntmps20
    go_wp2
    go_ret
    exact ⟨rfl, Up.refl w⟩
  rw [if_neg h1]
  by_cases h2 : n = 10
  · subst h2
    go_enter Tryd.func20, Tryd.ntmps20
    go_wp2
    go_ret
    exact ⟨rfl, Up.refl w⟩
  rw [if_neg h2]
  by_cases h3 : n = 9
  · subst h3
    go_enter Tryd.func20, Tryd.ntmps20
    go_wp2
    go_ret
    exact ⟨rfl, Up.refl w⟩
  rw [if_neg h3]
  by_cases h4 : n = 0
  · subst h4
    go_enter Tryd.func20, Tryd.ntmps20
    go_wp2
    go_ret
    exact ⟨rfl, Up.refl w⟩
  rw [if_neg h4]
  by_cases h5 : 32 < n ∧ n ≤ 126
  · rw [if_pos h5]
    obtain ⟨h6, h7⟩ := h5
    have kc := conv_new w [(n % 256).toNat.toUInt8] 1
    simp only [Lib.byteCells, List.map_cons, List.map_nil, List.length_cons, List.length_nil, Nat.zero_add] at kc
    rw [hu, show (((n % 256).toNat : Nat) : Int) = n by omega] at kc
    generalize (n % 256).toNat.toUInt8 = b at *
    have h8 : 33 ≤ n := by omega
    clear hu
    go_enter Tryd.func20, Tryd.ntmps20
    go_wp2
    go_ret
    exact ⟨rfl, up_alloc w _⟩
  · rw [if_neg h5]
    have K2 := fun w => rtwo_any n w
    unfold two at *
    generalize hexd ((n % 256).toNat / 16) = x at *
    generalize hexd ((n % 256).toNat % 16) = y at *
    have HK2 := hide K2
    have h8 : ¬ 33 ≤ n ∨ (33 ≤ n ∧ ¬ n ≤ 126) := by omega
    clear h5 K2 hu
    rcases h8 with h8 | ⟨h8, h9⟩
    · go_enter Tryd.func20, Tryd.ntmps20
      go_wp2_with (go_at_call 32; refine (HK2.out _).mono ?_; rintro e w2 ⟨rfl, hu2⟩)
      go_ret
      exact ⟨rfl, hu2⟩
    · go_enter Tryd.func20, Tryd.ntmps20
      go_wp2_with (go_at_call 32; refine (HK2.out _).mono ?_; rintro e w2 ⟨rfl, hu2⟩)
      go_ret
      exact ⟨rfl, hu2⟩

end Go.Proofs.YtedhknfgliepeaaDoor
