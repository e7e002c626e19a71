/-
  What is proved here: nat.Bits answers how many binary digits a number has.
-/
import Derived.Test.YtjbocfhmfidjjaaDoorDiv
namespace Go.Proofs.YtjbocfhmfidjjaaDoor
open Go Go.RowKit

theorem bitLen_zero : bitLen 0 = 0 := by simp [bitLen]
theorem bitLen_num {f : Nat → Nat} {p : Nat} (hf : ∀ i, i < p → f i < 4294967296) (hp : 0 < p) (ht : f (p - 1) ≠ 0) : bitLen (num 4294967296 f p) = 32 * (p - 1) + bitLen (f (p - 1)) := by
  obtain ⟨k, rfl⟩ : ∃ k, p = k + 1 := ⟨p - 1, by omega⟩
  rw [Nat.add_sub_cancel] at ht ⊢
  have hlo := num_lt (B := 4294967296) (f := f) (n := k) (fun i hi => hf i (by omega))
  have hd : num 4294967296 f (k + 1) / 2 ^ (32 * k) = f k := by
    have e : (2 : Nat) ^ (32 * k) = 4294967296 ^ k := by rw [Nat.pow_mul]
    rw [e, num_succ, Nat.add_mul_div_right _ _ (by omega), Nat.div_eq_of_lt hlo, Nat.zero_add]
  have := bitLen_shift (num 4294967296 f (k + 1)) (32 * k) (by rw [hd]; exact ht)
  rwa [hd] at this
theorem bitLen_double {x : Nat} (h : 0 < x) : bitLen (x + x) = bitLen x + 1 := by
  have := bitLen_shift (x + x) 1 (by omega)
  rw [show (x + x) / 2 ^ 1 = x from by omega] at this
  omega

set_option maxRecDepth 4000 in
set_option maxHeartbeats 1000000 in
theorem bits_any (v : Value) (n : Nat) (f : Nat → Nat) (w : World) (hv : Sl .u32 w v n f) (hf : ∀ i, i < n → f i < 4294967296) (hn : n ≤ 100000000000000000) :
    Calls Tryd.prog 125 #[v] w fun e w' => e = .returned (.int .i64 (bitLen (num 4294967296 f n))) ∧ w' = w := by
  obtain ⟨ao, cap, rfl, h1, h2, h0, h3⟩ := hv
  clear h0
  go_enter Tryd.func125, Tryd.ntmps125
  go_wp2_with fail
  refine (trim_any _ _ _ f _ h3 h1 h2).mono ?_
  rintro e w1 ⟨rfl, p, hp, rfl, zp, tp⟩
  have HE1 := hide (num_tail (B := 4294967296) hp zp)
  by_cases hp0 : p = 0
  · subst hp0
    go_wp2_with fail
    go_ret
    exact ⟨ret_len (by rw [unhide HE1, num_zero, bitLen_zero]; rfl), rfl⟩
  · have hb : ((p : Int) == 0) = false := beq_eq_false_iff_ne.2 (by omega)
    have htp : f (p - 1) ≠ 0 := by rcases tp with h | h; omega; exact h
    have HB := hide (bitLen_num (fun i hi => hf i (by omega)) (by omega) htp)
    have hxl := hf (p - 1) (by omega)
    rcases h3.mono hp with h4 | ⟨b, off, rfl, hc⟩
    · omega
    have hx := hc (p - 1) (by omega)
    have hbl := (top_shift hxl htp).1
    clear hc zp tp htp hf
    generalize f (p - 1) = x at *
    go_wp2_with (go_at_call 107; refine (len32_any x _ hxl).mono ?_; rintro e w' ⟨rfl, rfl⟩)
    go_ret
    exact ⟨ret_len (by rw [unhide HE1, unhide HB]; omega), rfl⟩

end Go.Proofs.YtjbocfhmfidjjaaDoor
