/-
  What is proved here: the document's own Bits answers how many binary digits a number has.
-/
import Derived.Test.YtfnlillhbkoeiaaDoorRSmall
namespace Go.Proofs.YtfnlillhbkoeiaaDoor
open Go Go.RowKit

theorem bitLen_num16 {f : Nat → Nat} {p : Nat} (hf : ∀ i, i < p → f i < 65536) (hp : 0 < p) (ht : f (p - 1) ≠ 0) : bitLen (num 65536 f p) = 16 * (p - 1) + bitLen (f (p - 1)) := by
  obtain ⟨k, rfl⟩ : ∃ k, p = k + 1 := ⟨p - 1, by omega⟩
  rw [Nat.add_sub_cancel] at ht ⊢
  have hlo := num_lt (B := 65536) (f := f) (n := k) (fun i hi => hf i (by omega))
  have hd : num 65536 f (k + 1) / 2 ^ (16 * k) = f k := by
    have e : (2 : Nat) ^ (16 * k) = 65536 ^ k := by rw [Nat.pow_mul]
    rw [e, num_succ, Nat.add_mul_div_right _ _ (by omega), Nat.div_eq_of_lt hlo, Nat.zero_add]
  have := bitLen_shift (num 65536 f (k + 1)) (16 * k) (by rw [hd]; exact ht)
  rwa [hd] at this
theorem bitLen_half {x : Nat} (h : 0 < x) : bitLen x = bitLen (x / 2) + 1 := by
  by_cases h1 : x / 2 = 0
  · have : x = 1 := by omega
    subst this
    decide
  · have := bitLen_shift x 1 (by simpa using h1)
    simp only [Nat.pow_one] at this
    omega

set_option maxRecDepth 4000 in
set_option maxHeartbeats 1000000 in
theorem rbits_any (v : Value) (n : Nat) (f : Nat → Nat) (w : World) (hv : Sl .u32 w v n f) (hf : ∀ i, i < n → f i < 4294967296) (hn : n ≤ 1000000000000) :
    Calls Tryd.prog 32 #[v] w fun e w' => e = .returned (.int .i64 (bitLen (num 4294967296 f n))) ∧ Below w.heap.size w w' := by
  go_enter Tryd.func32, Tryd.ntmps32
  go_wp2_with fail
  refine (half_any v n f _ hv hf hn).mono ?_
  rintro e w1 ⟨m, h, v1, rfl, o1, b1, c1, l1, s1⟩
  have HS := hide s1
  clear s1 hv hf
  rcases o1 with ⟨rfl, rfl⟩ | ⟨g, cap, rfl, hg, hcap, r1⟩
  · go_wp2_with fail
    go_ret
    exact ⟨ret_len (by rw [← unhide HS, num_zero, bitLen_zero]; rfl), b1⟩
  by_cases hm0 : m = 0
  · subst hm0
    go_wp2_with fail
    go_ret
    exact ⟨ret_len (by rw [← unhide HS, num_zero, bitLen_zero]; rfl), b1⟩
  · have hb : ((m : Int) == 0) = false := beq_eq_false_iff_ne.2 (by omega)
    have ht : h (m - 1) ≠ 0 := by rcases c1.2 with h | h; omega; exact h
    have HB := hide (bitLen_num16 c1.1 (by omega) ht)
    have hx := r1.cell (i := m - 1) (by omega)
    have hxl := c1.1 (m - 1) (by omega)
    clear c1 r1 ht
    generalize h (m - 1) = x at *
    go_wp2_with fail
    go_loop [4, 5] (fun t4 t5 => ∃ k y : Nat, y ≤ x ∧ t5 = .int .i64 y ∧ t4 = .int .i64 ((16 * (m - 1) + k : Nat) : Int) ∧ k + y ≤ x ∧ k + bitLen y = bitLen x) (fun _ t5 => (intOf t5).toNat)
    case atStart => exact ⟨0, x, Nat.le_refl _, rfl, by go_num, by omega, by omega⟩
    case round =>
      obtain ⟨k, y, hy, rfl, rfl, hky, hkb⟩ := hrel
      by_cases hy0 : y = 0
      · subst hy0
        have HK := hide hkb
        clear hkb
        go_wp2_with fail
        go_ret
        exact ⟨ret_len (by have := unhide HK; rw [bitLen_zero] at this; rw [← unhide HS, unhide HB]; omega), b1⟩
      · have HK := hide hkb
        have HH := hide (bitLen_half (x := y) (by omega))
        clear hkb
        have hyp : (0 : Int) < (y : Int) := by omega
        have hdv : Int.tdiv (y : Int) 2 = ((y / 2 : Nat) : Int) := rfl
        go_wp2_with fail
        go_round
        case rel => exact ⟨k + 1, y / 2, by omega, by go_num, by go_num, by omega, by have h1 := unhide HK; have h2 := unhide HH; omega⟩
        case measure => simp [intOf]; omega

end Go.Proofs.YtfnlillhbkoeiaaDoor
