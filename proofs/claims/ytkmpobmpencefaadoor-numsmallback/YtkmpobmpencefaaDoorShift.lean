/-
  What is proved here: nat.shiftLeft and nat.shiftRight shift a number's limbs into new memory.
-/
import Derived.Test.YtkmpobmpencefaaDoorShiftMath
import Derived.Test.YtkmpobmpencefaaDoorTake
namespace Go.Proofs.YtkmpobmpencefaaDoor
open Go Go.RowKit

theorem wide_eq (x s : Nat) (hx : x < 4294967296) (hs : s < 32) : IntKind.u64.wrap ((x : Int) * 2 ^ s) = ((x * 2 ^ s : Nat) : Int) ∧ x * 2 ^ s < 18446744073709551616 := by
  have h1 : 2 ^ s ≤ 2 ^ 31 := Nat.pow_le_pow_right (by decide) (by omega)
  have h2 : x * 2 ^ s ≤ 4294967295 * 2 ^ 31 := Nat.mul_le_mul (by omega) h1
  have h3 : x * 2 ^ s < 18446744073709551616 := by omega
  exact ⟨wrap_u64_of (by simp) h3, h3⟩
theorem shl_lo (x s c : Nat) (hx : x < 4294967296) (hs : s < 32) (hc : c < 2 ^ s) : bits BinOp.or IntKind.u32 (c : Int) (IntKind.u64.wrap ((x : Int) * 2 ^ s) % 4294967296) = ((c + x * 2 ^ s % 4294967296 : Nat) : Int) := by
  have hj := lo_join s x c hs hc
  rw [(wide_eq x s hx hs).1, show (((x * 2 ^ s : Nat) : Int) % 4294967296) = ((x * 2 ^ s % 4294967296 : Nat) : Int) from by simp, u32_or_nat _ _ (by omega) (Nat.mod_lt _ (by decide)), hj.1]
theorem shl_hi (x s : Nat) (hx : x < 4294967296) (hs : s < 32) : IntKind.u64.wrap ((x : Int) * 2 ^ s) / 4294967296 % 4294967296 = ((x * 2 ^ s / 4294967296 : Nat) : Int) := by
  obtain ⟨h1, h2⟩ := wide_eq x s hx hs
  rw [h1]
  generalize x * 2 ^ s = Y at *
  omega

set_option maxHeartbeats 1000000 in
theorem shiftLeft_any (ao : Option Addr) (n cap s : Nat) (f : Nat → Nat) (w : World) (h : Rd .u32 w ao n f) (hf : ∀ i, i < n → f i < 4294967296) (hn : 4 * (n + 1) ≤ 281474976710656) (hs : s < 32) (hn0 : 0 < n) :
    Calls Tryd.prog 120 #[.slice ao n cap, .int .i64 s] w fun e w' => ∃ f', e = .returned (.slice (some ⟨w.heap.size, 0, none⟩) (n + 1) (n + 1)) ∧ RowAt .u32 64 w' w.heap.size (n + 1) (n + 1) f' ∧ Below w.heap.size w w' ∧ ShlRel f (2 ^ s) n f' := by
  rcases h with h | ⟨b, off, rfl, hc⟩
  · omega
  have hbw : b < w.heap.size := Rd.lt hc hn0
  go_enter Tryd.func120, Tryd.ntmps120
  go_wp2_with (at_make; refine wpList_mkU rfl _ _ rfl .i64 .i64 _ _ (n + 1) rfl rfl (by omega) (by omega) (by omega) ?_; intro w1 hr1 hb1)
  go_loopw [15] (fun t wr => ∃ (k : Nat) (f' : Nat → Nat), k ≤ n ∧ t = .int .i64 k ∧ RowAt .u32 64 wr w.heap.size (n + 1) (n + 1) f' ∧ Below w.heap.size w wr ∧ ShlRel f (2 ^ s) k f') (fun t _ => n - (intOf t).toNat)
  case atStart => exact ⟨0, fun _ => 0, Nat.zero_le _, rfl, hr1, hb1, ⟨by simp [num], Nat.two_pow_pos s, fun _ _ => (by decide : (0 : Nat) < 4294967296), fun _ _ => rfl⟩⟩
  case round =>
    obtain ⟨k, f', hk, rfl, hr, hb, hrl⟩ := hrel
    clear hr1 hb1
    by_cases hlt : k < n
    · have hx := (hb.cell (p := ⟨b, off + k, none⟩) hbw).trans (hc k hlt)
      have hxl := hf k hlt
      have hck := hr.cell (i := k) (by omega)
      have hck1 := hr.cell (i := k + 1) (by omega)
      have hfr := hr.free k
      have hfr1 := hr.free (k + 1)
      have hcl : f' k < 2 ^ s := hrl.2.1
      have HS := hide (hrl.step hs (x := f k) (c := f' k) rfl hxl rfl)
      have HJ := hide (lo_join s (f k) (f' k) hs hcl)
      have HR := hide hr
      clear hrl hr hc hf
      generalize f k = x at *
      generalize f' k = c at *
      generalize f' (k + 1) = c1 at *
      go_wp2
      go_roundw
      case rel =>
        rw [shl_lo x s c hxl hs hcl, shl_hi x s hxl hs]
        exact ⟨k + 1, _, by omega, by go_num, ((unhide HR).set (by omega) _).set (by omega) _, (hb.setCell (Nat.le_refl _) _).setCell (Nat.le_refl _) _, unhide HS⟩
      case measure => simp [intOf]; omega
    · obtain rfl : k = n := by omega
      go_wp2
      go_ret
      exact ⟨f', rfl, hr, hb, hrl⟩

/-- The words of a right shift, as the walk says them. -/
theorem shr_two (x y : Nat) (hx : x < 4294967296) (hy : y < 4294967296) : bits BinOp.or IntKind.u64 (x : Int) ((y : Int) * 4294967296) = ((x + y * 4294967296 : Nat) : Int) := by
  have e : (y : Int) * 4294967296 = ((y * 4294967296 : Nat) : Int) := by simp
  rw [e, u64_or_nat _ _ (by omega) (by omega), Nat.or_comm, nat_join 32 _ _ (by omega) (by omega), Nat.add_comm]

set_option maxHeartbeats 1000000 in
theorem shiftRight_any (ao : Option Addr) (n cap s : Nat) (f : Nat → Nat) (w : World) (h : Rd .u32 w ao n f) (hf : ∀ i, i < n → f i < 4294967296) (hn : 4 * n ≤ 281474976710656) (hs : s < 32) (hn0 : 0 < n) :
    Calls Tryd.prog 124 #[.slice ao n cap, .int .i64 s] w fun e w' => ∃ f', e = .returned (.slice (some ⟨w.heap.size, 0, none⟩) n n) ∧ RowAt .u32 64 w' w.heap.size n n f' ∧ Below w.heap.size w w' ∧ ShrRel (cut f n) (2 ^ s) n f' := by
  rcases h with h | ⟨b, off, rfl, hc⟩
  · omega
  have hbw : b < w.heap.size := Rd.lt hc hn0
  go_enter Tryd.func124, Tryd.ntmps124
  go_wp2_with (at_make; refine wpList_mkU rfl _ _ rfl .i64 .i64 _ _ n rfl rfl (by omega) (by omega) (by omega) ?_; intro w1 hr1 hb1)
  go_loopw [13] (fun t wr => ∃ (k : Nat) (f' : Nat → Nat), k ≤ n ∧ t = .int .i64 k ∧ RowAt .u32 64 wr w.heap.size n n f' ∧ Below w.heap.size w wr ∧ ShrRel (cut f n) (2 ^ s) k f') (fun t _ => n - (intOf t).toNat)
  case atStart => exact ⟨0, fun _ => 0, Nat.zero_le _, rfl, hr1, hb1, ⟨by simp [num], fun i hi => by omega⟩⟩
  case round =>
    obtain ⟨k, f', hk, rfl, hr, hb, hrl⟩ := hrel
    clear hr1 hb1
    by_cases hlt : k < n
    · have hx := (hb.cell (p := ⟨b, off + k, none⟩) hbw).trans (hc k hlt)
      have hxl := hf k hlt
      have hck := hr.cell (i := k) hlt
      have hfr := hr.free k
      have HR := hide hr
      by_cases hlt2 : k + 1 < n
      · have hy := (hb.cell (p := ⟨b, off + (k + 1), none⟩) hbw).trans (hc (k + 1) hlt2)
        have hyl := hf (k + 1) hlt2
        have HS := hide (hrl.step hs (x := f k) (y := f (k + 1)) (cut_in hlt) (cut_in hlt2) hxl)
        have ho := shr_two (f k) (f (k + 1)) hxl hyl
        clear hrl hr hc hf
        generalize f k = x at *
        generalize f (k + 1) = y at *
        generalize f' k = c at *
        go_wp2
        go_roundw
        case rel =>
          rw [show (((x : Int) + (y : Int) * 4294967296) / 2 ^ s % 4294967296) = (((x + y * 4294967296) / 2 ^ s % 4294967296 : Nat) : Int) from by simp]
          exact ⟨k + 1, _, by omega, by go_num, (unhide HR).set hlt _, hb.setCell (Nat.le_refl _) _, unhide HS⟩
        case measure => simp [intOf]; omega
      · have HS := hide (hrl.step hs (x := f k) (y := 0) (cut_in hlt) (cut_out (by omega)) hxl)
        clear hrl hr hc hf
        generalize f k = x at *
        generalize f' k = c at *
        go_wp2
        go_roundw
        case rel =>
          rw [show ((x : Int) / 2 ^ s % 4294967296) = (((x + 0 * 4294967296) / 2 ^ s % 4294967296 : Nat) : Int) from by simp]
          exact ⟨k + 1, _, by omega, by go_num, (unhide HR).set hlt _, hb.setCell (Nat.le_refl _) _, unhide HS⟩
        case measure => simp [intOf]; omega
    · obtain rfl : k = n := by omega
      go_wp2
      go_ret
      exact ⟨f', rfl, hr, hb, hrl⟩

end Go.Proofs.YtkmpobmpencefaaDoor
