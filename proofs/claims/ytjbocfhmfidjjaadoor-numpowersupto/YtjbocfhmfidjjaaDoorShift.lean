/-
  What is proved here: plain facts on shifting a number's limbs; no walk. nat.shiftLeft and nat.shiftRight shift a number's limbs into new memory.
-/
import Derived.Test.YtjbocfhmfidjjaaDoorAdd
import Derived.Laws.BitsAllLaws
import Derived.Test.YtjbocfhmfidjjaaDoorGuess
namespace Go.Proofs.YtjbocfhmfidjjaaDoor
open Go Go.RowKit

theorem pow_split (s : Nat) (h : s < 32) : 2 ^ s * 2 ^ (32 - s) = 4294967296 := by
  rw [← Nat.pow_add, show s + (32 - s) = 32 from by omega]

/-- Behind k limbs: f's first k limbs times t, the carry in place k. -/
def ShlRel (f : Nat → Nat) (t k : Nat) (f' : Nat → Nat) : Prop :=
  num 4294967296 f' (k + 1) = num 4294967296 f k * t ∧ f' k < t ∧ (∀ i, i ≤ k → f' i < 4294967296) ∧ (∀ i, k < i → f' i = 0)

theorem lo_join (s x c : Nat) (hs : s < 32) (hc : c < 2 ^ s) : c ||| (x * 2 ^ s % 4294967296) = c + x * 2 ^ s % 4294967296 ∧ c + x * 2 ^ s % 4294967296 < 4294967296 := by
  have hd : 2 ^ s ∣ 4294967296 := ⟨2 ^ (32 - s), (pow_split s hs).symm⟩
  have hm : x * 2 ^ s % 4294967296 % 2 ^ s = 0 := by
    rw [Nat.mod_mod_of_dvd _ hd, Nat.mul_mod_left]
  refine ⟨?_, ?_⟩
  · rw [Nat.or_comm, nat_join s _ _ hm hc, Nat.add_comm]
  · have hl : x * 2 ^ s % 4294967296 < 4294967296 := Nat.mod_lt _ (by decide)
    obtain ⟨a, ha⟩ := Nat.dvd_of_mod_eq_zero hm
    have hp := pow_split s hs
    rw [ha] at hl ⊢
    rw [← hp] at hl ⊢
    have h1 : a < 2 ^ (32 - s) := Nat.lt_of_mul_lt_mul_left hl
    have h2 : 2 ^ s * (a + 1) ≤ 2 ^ s * 2 ^ (32 - s) := Nat.mul_le_mul_left _ h1
    rw [Nat.mul_add, Nat.mul_one] at h2
    omega

theorem ShlRel.step {f f' : Nat → Nat} {s k x c : Nat} (hs : s < 32) (r : ShlRel f (2 ^ s) k f') (hx : f k = x) (hxl : x < 4294967296) (hc : f' k = c) :
    ShlRel f (2 ^ s) (k + 1) (upd (upd f' k (c + x * 2 ^ s % 4294967296)) (k + 1) (x * 2 ^ s / 4294967296)) := by
  obtain ⟨h1, h2, h3, h4⟩ := r
  have hj := lo_join s x c hs (by rw [← hc]; exact h2)
  have hhi : x * 2 ^ s / 4294967296 < 2 ^ s := by
    rw [Nat.div_lt_iff_lt_mul (by decide), Nat.mul_comm]
    exact Nat.mul_lt_mul_of_pos_left hxl (Nat.two_pow_pos s)
  have hsp : 2 ^ s ≤ 4294967296 := by
    have := Nat.pow_le_pow_right (n := 2) (by decide) (show s ≤ 32 by omega)
    exact this
  refine ⟨?_, ?_, fun i hi => ?_, fun i hi => ?_⟩
  · rw [num_succ, num_succ, upd_same, upd_other (by omega), upd_same]
    rw [num_congr (g := f') (fun i hi => by rw [upd_other (by omega), upd_other (by omega)])]
    rw [num_succ, hc] at h1
    have g : (num 4294967296 f k + x * 4294967296 ^ k) * 2 ^ s = num 4294967296 f k * 2 ^ s + x * 2 ^ s * 4294967296 ^ k := by
      rw [Nat.add_mul, Nat.mul_assoc x, Nat.mul_comm (4294967296 ^ k), ← Nat.mul_assoc]
    rw [num_succ, hx, g, ← h1, Nat.pow_succ]
    clear g
    generalize 4294967296 ^ k = P
    generalize x * 2 ^ s = Y at *
    have e : Y % 4294967296 * P + Y / 4294967296 * (P * 4294967296) = Y * P := by
      rw [Nat.mul_comm P, ← Nat.mul_assoc, ← Nat.add_mul, Nat.mul_comm _ 4294967296, Nat.mod_add_div]
    rw [Nat.add_mul c]
    omega
  · rw [upd_same]; exact hhi
  · by_cases e : i = k + 1
    · rw [e, upd_same]; omega
    · rw [upd_other e]
      by_cases e2 : i = k
      · rw [e2, upd_same]; exact hj.2
      · rw [upd_other e2]; exact h3 i (by omega)
  · rw [upd_other (by omega), upd_other (by omega)]
    exact h4 i (by omega)

/-- Behind k limbs of a right shift. -/
def ShrRel (a : Nat → Nat) (t k : Nat) (f' : Nat → Nat) : Prop :=
  t * num 4294967296 f' k + a 0 % t = num 4294967296 a k + a k % t * 4294967296 ^ k ∧ (∀ i, i < k → f' i < 4294967296)

theorem shr_word (s x y : Nat) (hs : s < 32) : (x + y * 4294967296) / 2 ^ s % 4294967296 = (x / 2 ^ s + y % 2 ^ s * 2 ^ (32 - s)) % 4294967296 := by
  have hp := pow_split s hs
  have e1 : (x + y * 4294967296) / 2 ^ s = x / 2 ^ s + y * 2 ^ (32 - s) := by
    rw [← hp, show x + y * (2 ^ s * 2 ^ (32 - s)) = x + 2 ^ s * (y * 2 ^ (32 - s)) from by rw [← Nat.mul_assoc, Nat.mul_comm y, Nat.mul_assoc], Nat.add_mul_div_left _ _ (Nat.two_pow_pos s)]
  rw [e1]
  have e2 : y * 2 ^ (32 - s) = y / 2 ^ s * 4294967296 + y % 2 ^ s * 2 ^ (32 - s) := by
    rw [← hp, ← Nat.mul_assoc, ← Nat.add_mul, Nat.mul_comm _ (2 ^ s), Nat.div_add_mod]
  rw [e2]
  omega

theorem ShrRel.step {a f' : Nat → Nat} {s k x y : Nat} (hs : s < 32) (r : ShrRel a (2 ^ s) k f') (hx : a k = x) (hy : a (k + 1) = y) (hxl : x < 4294967296) :
    ShrRel a (2 ^ s) (k + 1) (upd f' k ((x + y * 4294967296) / 2 ^ s % 4294967296)) := by
  obtain ⟨h1, h2⟩ := r
  have hp := pow_split s hs
  have hpos := Nat.two_pow_pos s
  have hlt : x / 2 ^ s + y % 2 ^ s * 2 ^ (32 - s) < 4294967296 := by
    have h3 : x / 2 ^ s < 2 ^ (32 - s) := by
      rw [Nat.div_lt_iff_lt_mul hpos, Nat.mul_comm, hp]
      exact hxl
    have h4 : (y % 2 ^ s + 1) * 2 ^ (32 - s) ≤ 2 ^ s * 2 ^ (32 - s) := Nat.mul_le_mul_right _ (Nat.mod_lt _ hpos)
    rw [Nat.add_mul, Nat.one_mul, hp] at h4
    omega
  rw [shr_word s x y hs, Nat.mod_eq_of_lt hlt]
  refine ⟨?_, fun i hi => ?_⟩
  · rw [num_succ, num_succ, upd_same, num_congr (g := f') (fun i hi => upd_other (by omega)), hx, hy, Nat.mul_add]
    rw [hx] at h1
    have e1 := Nat.div_add_mod x (2 ^ s)
    have e2 : 2 ^ s * ((x / 2 ^ s + y % 2 ^ s * 2 ^ (32 - s)) * 4294967296 ^ k) = (2 ^ s * (x / 2 ^ s)) * 4294967296 ^ k + y % 2 ^ s * 4294967296 ^ (k + 1) := by
      have ea : ∀ T C P u v : Nat, T * ((u + v * C) * P) = T * u * P + v * (P * (T * C)) := by
        intro T C P u v
        rw [Nat.add_mul, Nat.mul_add, Nat.mul_assoc T u P]
        congr 1
        ac_rfl
      rw [ea, hp, Nat.pow_succ]
    rw [e2]
    have e3 : x * 4294967296 ^ k = (2 ^ s * (x / 2 ^ s)) * 4294967296 ^ k + x % 2 ^ s * 4294967296 ^ k := by rw [← Nat.add_mul, e1]
    omega
  · by_cases e : i = k
    · rw [e, upd_same]; exact hlt
    · rw [upd_other e]; exact h2 i (by omega)

theorem wide_eq (x s : Nat) (hx : x < 4294967296) (hs : s < 32) : IntKind.u64.wrap ((x : Int) * 2 ^ s) = ((x * 2 ^ s : Nat) : Int) ∧ x * 2 ^ s < 18446744073709551616 := by
  have h1 : 2 ^ s ≤ 2 ^ 31 := Nat.pow_le_pow_right (by decide) (by omega)
  have h2 : x * 2 ^ s ≤ 4294967295 * 2 ^ 31 := Nat.mul_le_mul (by omega) h1
  have h3 : x * 2 ^ s < 18446744073709551616 := by omega
  exact ⟨wrap_u64_of (by simp) h3, h3⟩
theorem shl_lo (x s c : Nat) (hx : x < 4294967296) (hs : s < 32) (hc : c < 2 ^ s) : bits BinOp.or IntKind.u32 (c : Int) (IntKind.u64.wrap ((x : Int) * 2 ^ s) % 4294967296) = ((c + x * 2 ^ s % 4294967296 : Nat) : Int) := by
  have hj := lo_join s x c hs hc
  rw [(wide_eq x s hx hs).1, show (((x * 2 ^ s : Nat) : Int) % 4294967296) = ((x * 2 ^ s % 4294967296 : Nat) : Int) from by simp, u32_or_nat _ _ (by omega) (Nat.mod_lt _ (by decide)), hj.1]
theorem shl_hi (x s : Nat) (hx : x < 4294967296) (hs : s < 32) : IntKind.u64.wrap ((x : Int) * 2 ^ s) / 4294967296 % 4294967296 = ((x * 2 ^ s / 4294967296 : Nat) : Int) := by
  obtain ⟨h1, h2⟩ := wide_eq x s hx hs
  rw [h1]
  generalize x * 2 ^ s = Y at *
  omega

set_option maxHeartbeats 1000000 in
theorem shiftLeft_any (ao : Option Addr) (n cap s : Nat) (f : Nat → Nat) (w : World) (h : Rd .u32 w ao n f) (hf : ∀ i, i < n → f i < 4294967296) (hn : 4 * (n + 1) ≤ 281474976710656) (hs : s < 32) (hn0 : 0 < n) :
    Calls Tryd.prog 120 #[.slice ao n cap, .int .i64 s] w fun e w' => ∃ f', e = .returned (.slice (some ⟨w.heap.size, 0, none⟩) (n + 1) (n + 1)) ∧ RowAt .u32 64 w' w.heap.size (n + 1) (n + 1) f' ∧ Below w.heap.size w w' ∧ ShlRel f (2 ^ s) n f' := by
  rcases h with h | ⟨b, off, rfl, hc⟩
  · omega
  have hbw : b < w.heap.size := Rd.lt hc hn0
  go_enter Tryd.func120, Tryd.ntmps120
  go_wp2_with (at_make; refine wpList_mkU rfl _ _ rfl .i64 .i64 _ _ (n + 1) rfl rfl (by omega) (by omega) (by omega) ?_; intro w1 hr1 hb1)
  go_loopw [15] (fun t wr => ∃ (k : Nat) (f' : Nat → Nat), k ≤ n ∧ t = .int .i64 k ∧ RowAt .u32 64 wr w.heap.size (n + 1) (n + 1) f' ∧ Below w.heap.size w wr ∧ ShlRel f (2 ^ s) k f') (fun t _ => n - (intOf t).toNat)
  case atStart => exact ⟨0, fun _ => 0, Nat.zero_le _, rfl, hr1, hb1, ⟨by simp [num], Nat.two_pow_pos s, fun _ _ => (by decide : (0 : Nat) < 4294967296), fun _ _ => rfl⟩⟩
  case round =>
    obtain ⟨k, f', hk, rfl, hr, hb, hrl⟩ := hrel
    clear hr1 hb1
    by_cases hlt : k < n
    · have hx := (hb.cell (p := ⟨b, off + k, none⟩) hbw).trans (hc k hlt)
      have hxl := hf k hlt
      have hck := hr.cell (i := k) (by omega)
      have hck1 := hr.cell (i := k + 1) (by omega)
      have hfr := hr.free k
      have hfr1 := hr.free (k + 1)
      have hcl : f' k < 2 ^ s := hrl.2.1
      have HS := hide (hrl.step hs (x := f k) (c := f' k) rfl hxl rfl)
      have HJ := hide (lo_join s (f k) (f' k) hs hcl)
      have HR := hide hr
      clear hrl hr hc hf
      generalize f k = x at *
      generalize f' k = c at *
      generalize f' (k + 1) = c1 at *
      go_wp2
      go_roundw
      case rel =>
        rw [shl_lo x s c hxl hs hcl, shl_hi x s hxl hs]
        exact ⟨k + 1, _, by omega, by go_num, ((unhide HR).set (by omega) _).set (by omega) _, (hb.setCell (Nat.le_refl _) _).setCell (Nat.le_refl _) _, unhide HS⟩
      case measure => simp [intOf]; omega
    · obtain rfl : k = n := by omega
      go_wp2
      go_ret
      exact ⟨f', rfl, hr, hb, hrl⟩

/-- The words of a right shift, as the walk says them. -/
theorem shr_two (x y : Nat) (hx : x < 4294967296) (hy : y < 4294967296) : bits BinOp.or IntKind.u64 (x : Int) ((y : Int) * 4294967296) = ((x + y * 4294967296 : Nat) : Int) := by
  have e : (y : Int) * 4294967296 = ((y * 4294967296 : Nat) : Int) := by simp
  rw [e, u64_or_nat _ _ (by omega) (by omega), Nat.or_comm, nat_join 32 _ _ (by omega) (by omega), Nat.add_comm]

set_option maxHeartbeats 1000000 in
theorem shiftRight_any (ao : Option Addr) (n cap s : Nat) (f : Nat → Nat) (w : World) (h : Rd .u32 w ao n f) (hf : ∀ i, i < n → f i < 4294967296) (hn : 4 * n ≤ 281474976710656) (hs : s < 32) (hn0 : 0 < n) :
    Calls Tryd.prog 124 #[.slice ao n cap, .int .i64 s] w fun e w' => ∃ f', e = .returned (.slice (some ⟨w.heap.size, 0, none⟩) n n) ∧ RowAt .u32 64 w' w.heap.size n n f' ∧ Below w.heap.size w w' ∧ ShrRel (cut f n) (2 ^ s) n f' := by
  rcases h with h | ⟨b, off, rfl, hc⟩
  · omega
  have hbw : b < w.heap.size := Rd.lt hc hn0
  go_enter Tryd.func124, Tryd.ntmps124
  go_wp2_with (at_make; refine wpList_mkU rfl _ _ rfl .i64 .i64 _ _ n rfl rfl (by omega) (by omega) (by omega) ?_; intro w1 hr1 hb1)
  go_loopw [13] (fun t wr => ∃ (k : Nat) (f' : Nat → Nat), k ≤ n ∧ t = .int .i64 k ∧ RowAt .u32 64 wr w.heap.size n n f' ∧ Below w.heap.size w wr ∧ ShrRel (cut f n) (2 ^ s) k f') (fun t _ => n - (intOf t).toNat)
  case atStart => exact ⟨0, fun _ => 0, Nat.zero_le _, rfl, hr1, hb1, ⟨by simp [num], fun i hi => by omega⟩⟩
  case round =>
    obtain ⟨k, f', hk, rfl, hr, hb, hrl⟩ := hrel
    clear hr1 hb1
    by_cases hlt : k < n
    · have hx := (hb.cell (p := ⟨b, off + k, none⟩) hbw).trans (hc k hlt)
      have hxl := hf k hlt
      have hck := hr.cell (i := k) hlt
      have hfr := hr.free k
      have HR := hide hr
      by_cases hlt2 : k + 1 < n
      · have hy := (hb.cell (p := ⟨b, off + (k + 1), none⟩) hbw).trans (hc (k + 1) hlt2)
        have hyl := hf (k + 1) hlt2
        have HS := hide (hrl.step hs (x := f k) (y := f (k + 1)) (cut_in hlt) (cut_in hlt2) hxl)
        have ho := shr_two (f k) (f (k + 1)) hxl hyl
        clear hrl hr hc hf
        generalize f k = x at *
        generalize f (k + 1) = y at *
        generalize f' k = c at *
        go_wp2
        go_roundw
        case rel =>
          rw [show (((x : Int) + (y : Int) * 4294967296) / 2 ^ s % 4294967296) = (((x + y * 4294967296) / 2 ^ s % 4294967296 : Nat) : Int) from by simp]
          exact ⟨k + 1, _, by omega, by go_num, (unhide HR).set hlt _, hb.setCell (Nat.le_refl _) _, unhide HS⟩
        case measure => simp [intOf]; omega
      · have HS := hide (hrl.step hs (x := f k) (y := 0) (cut_in hlt) (cut_out (by omega)) hxl)
        clear hrl hr hc hf
        generalize f k = x at *
        generalize f' k = c at *
        go_wp2
        go_roundw
        case rel =>
          rw [show ((x : Int) / 2 ^ s % 4294967296) = (((x + 0 * 4294967296) / 2 ^ s % 4294967296 : Nat) : Int) from by simp]
          exact ⟨k + 1, _, by omega, by go_num, (unhide HR).set hlt _, hb.setCell (Nat.le_refl _) _, unhide HS⟩
        case measure => simp [intOf]; omega
    · obtain rfl : k = n := by omega
      go_wp2
      go_ret
      exact ⟨f', rfl, hr, hb, hrl⟩

end Go.Proofs.YtjbocfhmfidjjaaDoor
