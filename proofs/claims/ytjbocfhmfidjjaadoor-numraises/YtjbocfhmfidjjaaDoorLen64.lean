/-
  What is proved here: math/bits.Len64, math/bits.Len: how many binary digits a number has.
-/
import Derived.Test.YtjbocfhmfidjjaaDoorProg
import Derived.Test.YtjbocfhmfidjjaaDoorBase
import Derived.WalkLawsBesides
import Derived.Laws.MathBits
namespace Go.Proofs.YtjbocfhmfidjjaaDoor
open Go Go.RowKit

theorem ret_len64 {k : IntKind} {a b : Int} (h : a = b) : Ending.returned (.int k a) = .returned (.int k b) := by rw [h]

set_option maxRecDepth 1000000 in
/-- What a table that is right answers. -/
theorem tab_index {s : ByteArray} (hsz : s.size = 256) (hget : ∀ (i : Nat) (h : i < s.size), (s[i]'h).toNat = bitLen i) (y : Nat) (hy : y < 256) (w : World) : (Instr.index 9 (.string s) (.int .u8 (y : Int))).run Tryd.prog w = .ok (.int .u8 (bitLen y : Int)) w := by
  rw [run_index_string w 9 s .u8 y Tryd.underlying9, dif_pos ⟨by omega, by omega⟩]
  have := hget (y : Int).toNat (by omega)
  rw [this]
  simp

theorem bit_shift {x k b : Nat} (hb : 2 ^ k = b) (h : b ≤ x) : bitLen x = k + bitLen (x / b) := by
  subst hb
  exact bitLen_shift x k (Nat.ne_of_gt (Nat.div_pos h (Nat.two_pow_pos k)))

set_option maxHeartbeats 4000000 in
set_option maxRecDepth 1000000 in
theorem len64_000 (x : Nat) (w : World) (hx : x < 18446744073709551616) (h32 : x < 4294967296) (h16 : x < 65536) (h8 : x < 256) :
    Calls Tryd.prog 108 #[.int .u64 x] w fun e w' => e = .returned (.int .i64 (bitLen x)) ∧ w' = w := by
  have i32 : ¬ (4294967296 : Int) ≤ (x : Int) := by omega
  have i16 : ¬ (65536 : Int) ≤ (x : Int) := by omega
  have i8 : ¬ (256 : Int) ≤ (x : Int) := by omega
  have hv : x < 256 := by omega
  have b8 := bitLen_le8 x hv
  have w8 : IntKind.u8.wrap (x : Int) = (x : Int) := by simp only [IntKind.wrap, IntKind.bits, IntKind.signed]; simp; omega
  have HB : Hid (bitLen x = 0 + bitLen x) := hide (by omega)
  obtain ⟨z, hz⟩ : ∃ z, z = bitLen x := ⟨_, rfl⟩
  go_enter Tryd.func108, Tryd.ntmps108
  generalize hT : Value.string _ = tv
  have hidx : ∀ (w : World), (Instr.index 9 tv (.int .u8 (x : Int))).run Tryd.prog w = .ok (.int .u8 (z : Int)) w := by
    rw [← hT, hz]
    exact fun w => tab_index (by kernel_rfl) (fun i h => len8tab_get i h) x hv w
  have HZ := hide hz
  rw [← hz] at b8
  clear hT hz 
  go_wp2
  go_ret
  refine ⟨ret_len64 ?_, rfl⟩
  have := HB.out
  have := HZ.out
  omega

set_option maxHeartbeats 4000000 in
set_option maxRecDepth 1000000 in
theorem len64_001 (x : Nat) (w : World) (hx : x < 18446744073709551616) (h32 : x < 4294967296) (h16 : x < 65536) (h8 : 256 ≤ x) :
    Calls Tryd.prog 108 #[.int .u64 x] w fun e w' => e = .returned (.int .i64 (bitLen x)) ∧ w' = w := by
  have i32 : ¬ (4294967296 : Int) ≤ (x : Int) := by omega
  have i16 : ¬ (65536 : Int) ≤ (x : Int) := by omega
  obtain ⟨y8, e8⟩ : ∃ y, y = x / 256 := ⟨_, rfl⟩
  have s8 : bitLen x = 8 + bitLen y8 := by rw [e8]; exact bit_shift rfl h8
  have i8 : (256 : Int) ≤ (x : Int) := by omega
  have d8 : (x : Int) / 256 = (y8 : Int) := by omega
  have l8 : y8 < 256 := by omega
  have hv : y8 < 256 := by omega
  have b8 := bitLen_le8 y8 hv
  have w8 : IntKind.u8.wrap (y8 : Int) = (y8 : Int) := by simp only [IntKind.wrap, IntKind.bits, IntKind.signed]; simp; omega
  have HB : Hid (bitLen x = 8 + bitLen y8) := hide (by omega)
  obtain ⟨z, hz⟩ : ∃ z, z = bitLen y8 := ⟨_, rfl⟩
  go_enter Tryd.func108, Tryd.ntmps108
  generalize hT : Value.string _ = tv
  have hidx : ∀ (w : World), (Instr.index 9 tv (.int .u8 (y8 : Int))).run Tryd.prog w = .ok (.int .u8 (z : Int)) w := by
    rw [← hT, hz]
    exact fun w => tab_index (by kernel_rfl) (fun i h => len8tab_get i h) y8 hv w
  have HZ := hide hz
  rw [← hz] at b8
  clear hT hz s8 e8
  go_wp2
  go_ret
  refine ⟨ret_len64 ?_, rfl⟩
  have := HB.out
  have := HZ.out
  omega

set_option maxHeartbeats 4000000 in
set_option maxRecDepth 1000000 in
theorem len64_010 (x : Nat) (w : World) (hx : x < 18446744073709551616) (h32 : x < 4294967296) (h16 : 65536 ≤ x) (h8 : x / 65536 < 256) :
    Calls Tryd.prog 108 #[.int .u64 x] w fun e w' => e = .returned (.int .i64 (bitLen x)) ∧ w' = w := by
  have i32 : ¬ (4294967296 : Int) ≤ (x : Int) := by omega
  obtain ⟨y16, e16⟩ : ∃ y, y = x / 65536 := ⟨_, rfl⟩
  rw [← e16] at h8
  have s16 : bitLen x = 16 + bitLen y16 := by rw [e16]; exact bit_shift rfl h16
  have i16 : (65536 : Int) ≤ (x : Int) := by omega
  have d16 : (x : Int) / 65536 = (y16 : Int) := by omega
  have l16 : y16 < 65536 := by omega
  have i8 : ¬ (256 : Int) ≤ (y16 : Int) := by omega
  have hv : y16 < 256 := by omega
  have b8 := bitLen_le8 y16 hv
  have w8 : IntKind.u8.wrap (y16 : Int) = (y16 : Int) := by simp only [IntKind.wrap, IntKind.bits, IntKind.signed]; simp; omega
  have HB : Hid (bitLen x = 16 + bitLen y16) := hide (by omega)
  obtain ⟨z, hz⟩ : ∃ z, z = bitLen y16 := ⟨_, rfl⟩
  go_enter Tryd.func108, Tryd.ntmps108
  generalize hT : Value.string _ = tv
  have hidx : ∀ (w : World), (Instr.index 9 tv (.int .u8 (y16 : Int))).run Tryd.prog w = .ok (.int .u8 (z : Int)) w := by
    rw [← hT, hz]
    exact fun w => tab_index (by kernel_rfl) (fun i h => len8tab_get i h) y16 hv w
  have HZ := hide hz
  rw [← hz] at b8
  clear hT hz s16 e16
  go_wp2
  go_ret
  refine ⟨ret_len64 ?_, rfl⟩
  have := HB.out
  have := HZ.out
  omega

set_option maxHeartbeats 4000000 in
set_option maxRecDepth 1000000 in
theorem len64_011 (x : Nat) (w : World) (hx : x < 18446744073709551616) (h32 : x < 4294967296) (h16 : 65536 ≤ x) (h8 : 256 ≤ x / 65536) :
    Calls Tryd.prog 108 #[.int .u64 x] w fun e w' => e = .returned (.int .i64 (bitLen x)) ∧ w' = w := by
  have i32 : ¬ (4294967296 : Int) ≤ (x : Int) := by omega
  obtain ⟨y16, e16⟩ : ∃ y, y = x / 65536 := ⟨_, rfl⟩
  rw [← e16] at h8
  have s16 : bitLen x = 16 + bitLen y16 := by rw [e16]; exact bit_shift rfl h16
  have i16 : (65536 : Int) ≤ (x : Int) := by omega
  have d16 : (x : Int) / 65536 = (y16 : Int) := by omega
  have l16 : y16 < 65536 := by omega
  obtain ⟨y8, e8⟩ : ∃ y, y = y16 / 256 := ⟨_, rfl⟩
  have s8 : bitLen y16 = 8 + bitLen y8 := by rw [e8]; exact bit_shift rfl h8
  have i8 : (256 : Int) ≤ (y16 : Int) := by omega
  have d8 : (y16 : Int) / 256 = (y8 : Int) := by omega
  have l8 : y8 < 256 := by omega
  have hv : y8 < 256 := by omega
  have b8 := bitLen_le8 y8 hv
  have w8 : IntKind.u8.wrap (y8 : Int) = (y8 : Int) := by simp only [IntKind.wrap, IntKind.bits, IntKind.signed]; simp; omega
  have HB : Hid (bitLen x = 24 + bitLen y8) := hide (by omega)
  obtain ⟨z, hz⟩ : ∃ z, z = bitLen y8 := ⟨_, rfl⟩
  go_enter Tryd.func108, Tryd.ntmps108
  generalize hT : Value.string _ = tv
  have hidx : ∀ (w : World), (Instr.index 9 tv (.int .u8 (y8 : Int))).run Tryd.prog w = .ok (.int .u8 (z : Int)) w := by
    rw [← hT, hz]
    exact fun w => tab_index (by kernel_rfl) (fun i h => len8tab_get i h) y8 hv w
  have HZ := hide hz
  rw [← hz] at b8
  clear hT hz s16 s8 e16 e8
  go_wp2
  go_ret
  refine ⟨ret_len64 ?_, rfl⟩
  have := HB.out
  have := HZ.out
  omega

set_option maxHeartbeats 4000000 in
set_option maxRecDepth 1000000 in
theorem len64_100 (x : Nat) (w : World) (hx : x < 18446744073709551616) (h32 : 4294967296 ≤ x) (_h16 : x / 4294967296 < 65536) (h8 : x / 4294967296 < 256) :
    Calls Tryd.prog 108 #[.int .u64 x] w fun e w' => e = .returned (.int .i64 (bitLen x)) ∧ w' = w := by
  obtain ⟨y32, e32⟩ : ∃ y, y = x / 4294967296 := ⟨_, rfl⟩
  rw [← e32] at h8
  have s32 : bitLen x = 32 + bitLen y32 := by rw [e32]; exact bit_shift rfl h32
  have i32 : (4294967296 : Int) ≤ (x : Int) := by omega
  have d32 : (x : Int) / 4294967296 = (y32 : Int) := by omega
  have l32 : y32 < 4294967296 := by omega
  have i16 : ¬ (65536 : Int) ≤ (y32 : Int) := by omega
  have i8 : ¬ (256 : Int) ≤ (y32 : Int) := by omega
  have hv : y32 < 256 := by omega
  have b8 := bitLen_le8 y32 hv
  have w8 : IntKind.u8.wrap (y32 : Int) = (y32 : Int) := by simp only [IntKind.wrap, IntKind.bits, IntKind.signed]; simp; omega
  have HB : Hid (bitLen x = 32 + bitLen y32) := hide (by omega)
  obtain ⟨z, hz⟩ : ∃ z, z = bitLen y32 := ⟨_, rfl⟩
  go_enter Tryd.func108, Tryd.ntmps108
  generalize hT : Value.string _ = tv
  have hidx : ∀ (w : World), (Instr.index 9 tv (.int .u8 (y32 : Int))).run Tryd.prog w = .ok (.int .u8 (z : Int)) w := by
    rw [← hT, hz]
    exact fun w => tab_index (by kernel_rfl) (fun i h => len8tab_get i h) y32 hv w
  have HZ := hide hz
  rw [← hz] at b8
  clear hT hz s32 e32
  go_wp2
  go_ret
  refine ⟨ret_len64 ?_, rfl⟩
  have := HB.out
  have := HZ.out
  omega

set_option maxHeartbeats 4000000 in
set_option maxRecDepth 1000000 in
theorem len64_101 (x : Nat) (w : World) (hx : x < 18446744073709551616) (h32 : 4294967296 ≤ x) (h16 : x / 4294967296 < 65536) (h8 : 256 ≤ x / 4294967296) :
    Calls Tryd.prog 108 #[.int .u64 x] w fun e w' => e = .returned (.int .i64 (bitLen x)) ∧ w' = w := by
  obtain ⟨y32, e32⟩ : ∃ y, y = x / 4294967296 := ⟨_, rfl⟩
  rw [← e32] at h16 h8
  have s32 : bitLen x = 32 + bitLen y32 := by rw [e32]; exact bit_shift rfl h32
  have i32 : (4294967296 : Int) ≤ (x : Int) := by omega
  have d32 : (x : Int) / 4294967296 = (y32 : Int) := by omega
  have l32 : y32 < 4294967296 := by omega
  have i16 : ¬ (65536 : Int) ≤ (y32 : Int) := by omega
  obtain ⟨y8, e8⟩ : ∃ y, y = y32 / 256 := ⟨_, rfl⟩
  have s8 : bitLen y32 = 8 + bitLen y8 := by rw [e8]; exact bit_shift rfl h8
  have i8 : (256 : Int) ≤ (y32 : Int) := by omega
  have d8 : (y32 : Int) / 256 = (y8 : Int) := by omega
  have l8 : y8 < 256 := by omega
  have hv : y8 < 256 := by omega
  have b8 := bitLen_le8 y8 hv
  have w8 : IntKind.u8.wrap (y8 : Int) = (y8 : Int) := by simp only [IntKind.wrap, IntKind.bits, IntKind.signed]; simp; omega
  have HB : Hid (bitLen x = 40 + bitLen y8) := hide (by omega)
  obtain ⟨z, hz⟩ : ∃ z, z = bitLen y8 := ⟨_, rfl⟩
  go_enter Tryd.func108, Tryd.ntmps108
  generalize hT : Value.string _ = tv
  have hidx : ∀ (w : World), (Instr.index 9 tv (.int .u8 (y8 : Int))).run Tryd.prog w = .ok (.int .u8 (z : Int)) w := by
    rw [← hT, hz]
    exact fun w => tab_index (by kernel_rfl) (fun i h => len8tab_get i h) y8 hv w
  have HZ := hide hz
  rw [← hz] at b8
  clear hT hz s32 s8 e32 e8
  go_wp2
  go_ret
  refine ⟨ret_len64 ?_, rfl⟩
  have := HB.out
  have := HZ.out
  omega

set_option maxHeartbeats 4000000 in
set_option maxRecDepth 1000000 in
theorem len64_110 (x : Nat) (w : World) (hx : x < 18446744073709551616) (h32 : 4294967296 ≤ x) (h16 : 65536 ≤ x / 4294967296) (h8 : x / 4294967296 / 65536 < 256) :
    Calls Tryd.prog 108 #[.int .u64 x] w fun e w' => e = .returned (.int .i64 (bitLen x)) ∧ w' = w := by
  obtain ⟨y32, e32⟩ : ∃ y, y = x / 4294967296 := ⟨_, rfl⟩
  rw [← e32] at h16 h8
  have s32 : bitLen x = 32 + bitLen y32 := by rw [e32]; exact bit_shift rfl h32
  have i32 : (4294967296 : Int) ≤ (x : Int) := by omega
  have d32 : (x : Int) / 4294967296 = (y32 : Int) := by omega
  have l32 : y32 < 4294967296 := by omega
  obtain ⟨y16, e16⟩ : ∃ y, y = y32 / 65536 := ⟨_, rfl⟩
  rw [← e16] at h8
  have s16 : bitLen y32 = 16 + bitLen y16 := by rw [e16]; exact bit_shift rfl h16
  have i16 : (65536 : Int) ≤ (y32 : Int) := by omega
  have d16 : (y32 : Int) / 65536 = (y16 : Int) := by omega
  have l16 : y16 < 65536 := by omega
  have i8 : ¬ (256 : Int) ≤ (y16 : Int) := by omega
  have hv : y16 < 256 := by omega
  have b8 := bitLen_le8 y16 hv
  have w8 : IntKind.u8.wrap (y16 : Int) = (y16 : Int) := by simp only [IntKind.wrap, IntKind.bits, IntKind.signed]; simp; omega
  have HB : Hid (bitLen x = 48 + bitLen y16) := hide (by omega)
  obtain ⟨z, hz⟩ : ∃ z, z = bitLen y16 := ⟨_, rfl⟩
  go_enter Tryd.func108, Tryd.ntmps108
  generalize hT : Value.string _ = tv
  have hidx : ∀ (w : World), (Instr.index 9 tv (.int .u8 (y16 : Int))).run Tryd.prog w = .ok (.int .u8 (z : Int)) w := by
    rw [← hT, hz]
    exact fun w => tab_index (by kernel_rfl) (fun i h => len8tab_get i h) y16 hv w
  have HZ := hide hz
  rw [← hz] at b8
  clear hT hz s32 s16 e32 e16
  go_wp2
  go_ret
  refine ⟨ret_len64 ?_, rfl⟩
  have := HB.out
  have := HZ.out
  omega

set_option maxHeartbeats 4000000 in
set_option maxRecDepth 1000000 in
theorem len64_111 (x : Nat) (w : World) (hx : x < 18446744073709551616) (h32 : 4294967296 ≤ x) (h16 : 65536 ≤ x / 4294967296) (h8 : 256 ≤ x / 4294967296 / 65536) :
    Calls Tryd.prog 108 #[.int .u64 x] w fun e w' => e = .returned (.int .i64 (bitLen x)) ∧ w' = w := by
  obtain ⟨y32, e32⟩ : ∃ y, y = x / 4294967296 := ⟨_, rfl⟩
  rw [← e32] at h16 h8
  have s32 : bitLen x = 32 + bitLen y32 := by rw [e32]; exact bit_shift rfl h32
  have i32 : (4294967296 : Int) ≤ (x : Int) := by omega
  have d32 : (x : Int) / 4294967296 = (y32 : Int) := by omega
  have l32 : y32 < 4294967296 := by omega
  obtain ⟨y16, e16⟩ : ∃ y, y = y32 / 65536 := ⟨_, rfl⟩
  rw [← e16] at h8
  have s16 : bitLen y32 = 16 + bitLen y16 := by rw [e16]; exact bit_shift rfl h16
  have i16 : (65536 : Int) ≤ (y32 : Int) := by omega
  have d16 : (y32 : Int) / 65536 = (y16 : Int) := by omega
  have l16 : y16 < 65536 := by omega
  obtain ⟨y8, e8⟩ : ∃ y, y = y16 / 256 := ⟨_, rfl⟩
  have s8 : bitLen y16 = 8 + bitLen y8 := by rw [e8]; exact bit_shift rfl h8
  have i8 : (256 : Int) ≤ (y16 : Int) := by omega
  have d8 : (y16 : Int) / 256 = (y8 : Int) := by omega
  have l8 : y8 < 256 := by omega
  have hv : y8 < 256 := by omega
  have b8 := bitLen_le8 y8 hv
  have w8 : IntKind.u8.wrap (y8 : Int) = (y8 : Int) := by simp only [IntKind.wrap, IntKind.bits, IntKind.signed]; simp; omega
  have HB : Hid (bitLen x = 56 + bitLen y8) := hide (by omega)
  obtain ⟨z, hz⟩ : ∃ z, z = bitLen y8 := ⟨_, rfl⟩
  go_enter Tryd.func108, Tryd.ntmps108
  generalize hT : Value.string _ = tv
  have hidx : ∀ (w : World), (Instr.index 9 tv (.int .u8 (y8 : Int))).run Tryd.prog w = .ok (.int .u8 (z : Int)) w := by
    rw [← hT, hz]
    exact fun w => tab_index (by kernel_rfl) (fun i h => len8tab_get i h) y8 hv w
  have HZ := hide hz
  rw [← hz] at b8
  clear hT hz s32 s16 s8 e32 e16 e8
  go_wp2
  go_ret
  refine ⟨ret_len64 ?_, rfl⟩
  have := HB.out
  have := HZ.out
  omega

theorem len64_any (x : Nat) (w : World) (hx : x < 18446744073709551616) :
    Calls Tryd.prog 108 #[.int .u64 x] w fun e w' => e = .returned (.int .i64 (bitLen x)) ∧ w' = w := by
  rcases Nat.lt_or_ge x 4294967296 with a | a
  · rcases Nat.lt_or_ge x 65536 with b | b
    · rcases Nat.lt_or_ge x 256 with c | c
      · exact len64_000 x w hx a b c
      · exact len64_001 x w hx a b c
    · rcases Nat.lt_or_ge (x / 65536) 256 with c | c
      · exact len64_010 x w hx a b c
      · exact len64_011 x w hx a b c
  · rcases Nat.lt_or_ge (x / 4294967296) 65536 with b | b
    · rcases Nat.lt_or_ge (x / 4294967296) 256 with c | c
      · exact len64_100 x w hx a b c
      · exact len64_101 x w hx a b c
    · rcases Nat.lt_or_ge (x / 4294967296 / 65536) 256 with c | c
      · exact len64_110 x w hx a b c
      · exact len64_111 x w hx a b c

set_option maxHeartbeats 1000000 in
theorem blen_any (x : Nat) (w : World) (hx : x < 18446744073709551616) :
    Calls Tryd.prog 90 #[.int .u64 x] w fun e w' => e = .returned (.int .i64 (bitLen x)) ∧ w' = w := by
  have K := len64_any x w hx
  go_enter Tryd.func90, Tryd.ntmps90
  go_wp2_with (go_at_call 108; refine K.mono ?_; rintro e w1 ⟨rfl, hw⟩; replace hw := hw.symm; subst hw)
  go_ret
  exact ⟨rfl, rfl⟩

end Go.Proofs.YtjbocfhmfidjjaaDoor
