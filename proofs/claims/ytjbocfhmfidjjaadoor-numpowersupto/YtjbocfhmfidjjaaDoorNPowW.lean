/-
  What is proved here: math/bits.Len64, math/bits.Len: how many binary digits a number has. heads of powers: their product, and whether one has too many binary digits. what the heads of a power's prefixes say of the power; no walk. num.raise: a power by squares, by heads or whole. num.Power.
-/
import Derived.Test.YtjbocfhmfidjjaaDoorProg
import Derived.Test.YtjbocfhmfidjjaaDoorBase
import Derived.WalkLawsBesides
import Derived.Laws.MathBits
import Derived.Deep.RegionHeld3
import Derived.BigQuiet
import Derived.Test.YtjbocfhmfidjjaaDoorNPow2
import Derived.Test.YtjbocfhmfidjjaaDoorBits
import Derived.Laws.BitsLemmas
namespace Go.Proofs.YtjbocfhmfidjjaaDoor
open Go Go.RowKit

theorem ret_len64 {k : IntKind} {a b : Int} (h : a = b) : Ending.returned (.int k a) = .returned (.int k b) := by rw [h]

set_option maxRecDepth 1000000 in
/-- What a table that is right answers. -/
theorem tab_index {s : ByteArray} (hsz : s.size = 256) (hget : ∀ (i : Nat) (h : i < s.size), (s[i]'h).toNat = bitLen i) (y : Nat) (hy : y < 256) (w : World) : (Instr.index 9 (.string s) (.int .u8 (y : Int))).run Tryd.prog w = .ok (.int .u8 (bitLen y : Int)) w := by
  rw [run_index_string w 9 s .u8 y Tryd.underlying9, dif_pos ⟨by omega, by omega⟩]
  have := hget (y : Int).toNat (by omega)
  rw [this]
  simp

theorem bit_shift {x k b : Nat} (hb : 2 ^ k = b) (h : b ≤ x) : bitLen x = k + bitLen (x / b) := by
  subst hb
  exact bitLen_shift x k (Nat.ne_of_gt (Nat.div_pos h (Nat.two_pow_pos k)))

set_option maxHeartbeats 4000000 in
set_option maxRecDepth 1000000 in
theorem len64_000 (x : Nat) (w : World) (hx : x < 18446744073709551616) (h32 : x < 4294967296) (h16 : x < 65536) (h8 : x < 256) :
    Calls Tryd.prog 108 #[.int .u64 x] w fun e w' => e = .returned (.int .i64 (bitLen x)) ∧ w' = w := by
  have i32 : ¬ (4294967296 : Int) ≤ (x : Int) := by omega
  have i16 : ¬ (65536 : Int) ≤ (x : Int) := by omega
  have i8 : ¬ (256 : Int) ≤ (x : Int) := by omega
  have hv : x < 256 := by omega
  have b8 := bitLen_le8 x hv
  have w8 : IntKind.u8.wrap (x : Int) = (x : Int) := by simp only [IntKind.wrap, IntKind.bits, IntKind.signed]; simp; omega
  have HB : Hid (bitLen x = 0 + bitLen x) := hide (by omega)
  obtain ⟨z, hz⟩ : ∃ z, z = bitLen x := ⟨_, rfl⟩
  go_enter Tryd.func108, Tryd.ntmps108
  generalize hT : Value.string _ = tv
  have hidx : ∀ (w : World), (Instr.index 9 tv (.int .u8 (x : Int))).run Tryd.prog w = .ok (.int .u8 (z : Int)) w := by
    rw [← hT, hz]
    exact fun w => tab_index (by kernel_rfl) (fun i h => len8tab_get i h) x hv w
  have HZ := hide hz
  rw [← hz] at b8
  clear hT hz 
  go_wp2
  go_ret
  refine ⟨ret_len64 ?_, rfl⟩
  have := HB.out
  have := HZ.out
  omega

set_option maxHeartbeats 4000000 in
set_option maxRecDepth 1000000 in
theorem len64_001 (x : Nat) (w : World) (hx : x < 18446744073709551616) (h32 : x < 4294967296) (h16 : x < 65536) (h8 : 256 ≤ x) :
    Calls Tryd.prog 108 #[.int .u64 x] w fun e w' => e = .returned (.int .i64 (bitLen x)) ∧ w' = w := by
  have i32 : ¬ (4294967296 : Int) ≤ (x : Int) := by omega
  have i16 : ¬ (65536 : Int) ≤ (x : Int) := by omega
  obtain ⟨y8, e8⟩ : ∃ y, y = x / 256 := ⟨_, rfl⟩
  have s8 : bitLen x = 8 + bitLen y8 := by rw [e8]; exact bit_shift rfl h8
  have i8 : (256 : Int) ≤ (x : Int) := by omega
  have d8 : (x : Int) / 256 = (y8 : Int) := by omega
  have l8 : y8 < 256 := by omega
  have hv : y8 < 256 := by omega
  have b8 := bitLen_le8 y8 hv
  have w8 : IntKind.u8.wrap (y8 : Int) = (y8 : Int) := by simp only [IntKind.wrap, IntKind.bits, IntKind.signed]; simp; omega
  have HB : Hid (bitLen x = 8 + bitLen y8) := hide (by omega)
  obtain ⟨z, hz⟩ : ∃ z, z = bitLen y8 := ⟨_, rfl⟩
  go_enter Tryd.func108, Tryd.ntmps108
  generalize hT : Value.string _ = tv
  have hidx : ∀ (w : World), (Instr.index 9 tv (.int .u8 (y8 : Int))).run Tryd.prog w = .ok (.int .u8 (z : Int)) w := by
    rw [← hT, hz]
    exact fun w => tab_index (by kernel_rfl) (fun i h => len8tab_get i h) y8 hv w
  have HZ := hide hz
  rw [← hz] at b8
  clear hT hz s8 e8
  go_wp2
  go_ret
  refine ⟨ret_len64 ?_, rfl⟩
  have := HB.out
  have := HZ.out
  omega

set_option maxHeartbeats 4000000 in
set_option maxRecDepth 1000000 in
theorem len64_010 (x : Nat) (w : World) (hx : x < 18446744073709551616) (h32 : x < 4294967296) (h16 : 65536 ≤ x) (h8 : x / 65536 < 256) :
    Calls Tryd.prog 108 #[.int .u64 x] w fun e w' => e = .returned (.int .i64 (bitLen x)) ∧ w' = w := by
  have i32 : ¬ (4294967296 : Int) ≤ (x : Int) := by omega
  obtain ⟨y16, e16⟩ : ∃ y, y = x / 65536 := ⟨_, rfl⟩
  rw [← e16] at h8
  have s16 : bitLen x = 16 + bitLen y16 := by rw [e16]; exact bit_shift rfl h16
  have i16 : (65536 : Int) ≤ (x : Int) := by omega
  have d16 : (x : Int) / 65536 = (y16 : Int) := by omega
  have l16 : y16 < 65536 := by omega
  have i8 : ¬ (256 : Int) ≤ (y16 : Int) := by omega
  have hv : y16 < 256 := by omega
  have b8 := bitLen_le8 y16 hv
  have w8 : IntKind.u8.wrap (y16 : Int) = (y16 : Int) := by simp only [IntKind.wrap, IntKind.bits, IntKind.signed]; simp; omega
  have HB : Hid (bitLen x = 16 + bitLen y16) := hide (by omega)
  obtain ⟨z, hz⟩ : ∃ z, z = bitLen y16 := ⟨_, rfl⟩
  go_enter Tryd.func108, Tryd.ntmps108
  generalize hT : Value.string _ = tv
  have hidx : ∀ (w : World), (Instr.index 9 tv (.int .u8 (y16 : Int))).run Tryd.prog w = .ok (.int .u8 (z : Int)) w := by
    rw [← hT, hz]
    exact fun w => tab_index (by kernel_rfl) (fun i h => len8tab_get i h) y16 hv w
  have HZ := hide hz
  rw [← hz] at b8
  clear hT hz s16 e16
  go_wp2
  go_ret
  refine ⟨ret_len64 ?_, rfl⟩
  have := HB.out
  have := HZ.out
  omega

set_option maxHeartbeats 4000000 in
set_option maxRecDepth 1000000 in
theorem len64_011 (x : Nat) (w : World) (hx : x < 18446744073709551616) (h32 : x < 4294967296) (h16 : 65536 ≤ x) (h8 : 256 ≤ x / 65536) :
    Calls Tryd.prog 108 #[.int .u64 x] w fun e w' => e = .returned (.int .i64 (bitLen x)) ∧ w' = w := by
  have i32 : ¬ (4294967296 : Int) ≤ (x : Int) := by omega
  obtain ⟨y16, e16⟩ : ∃ y, y = x / 65536 := ⟨_, rfl⟩
  rw [← e16] at h8
  have s16 : bitLen x = 16 + bitLen y16 := by rw [e16]; exact bit_shift rfl h16
  have i16 : (65536 : Int) ≤ (x : Int) := by omega
  have d16 : (x : Int) / 65536 = (y16 : Int) := by omega
  have l16 : y16 < 65536 := by omega
  obtain ⟨y8, e8⟩ : ∃ y, y = y16 / 256 := ⟨_, rfl⟩
  have s8 : bitLen y16 = 8 + bitLen y8 := by rw [e8]; exact bit_shift rfl h8
  have i8 : (256 : Int) ≤ (y16 : Int) := by omega
  have d8 : (y16 : Int) / 256 = (y8 : Int) := by omega
  have l8 : y8 < 256 := by omega
  have hv : y8 < 256 := by omega
  have b8 := bitLen_le8 y8 hv
  have w8 : IntKind.u8.wrap (y8 : Int) = (y8 : Int) := by simp only [IntKind.wrap, IntKind.bits, IntKind.signed]; simp; omega
  have HB : Hid (bitLen x = 24 + bitLen y8) := hide (by omega)
  obtain ⟨z, hz⟩ : ∃ z, z = bitLen y8 := ⟨_, rfl⟩
  go_enter Tryd.func108, Tryd.ntmps108
  generalize hT : Value.string _ = tv
  have hidx : ∀ (w : World), (Instr.index 9 tv (.int .u8 (y8 : Int))).run Tryd.prog w = .ok (.int .u8 (z : Int)) w := by
    rw [← hT, hz]
    exact fun w => tab_index (by kernel_rfl) (fun i h => len8tab_get i h) y8 hv w
  have HZ := hide hz
  rw [← hz] at b8
  clear hT hz s16 s8 e16 e8
  go_wp2
  go_ret
  refine ⟨ret_len64 ?_, rfl⟩
  have := HB.out
  have := HZ.out
  omega

set_option maxHeartbeats 4000000 in
set_option maxRecDepth 1000000 in
theorem len64_100 (x : Nat) (w : World) (hx : x < 18446744073709551616) (h32 : 4294967296 ≤ x) (_h16 : x / 4294967296 < 65536) (h8 : x / 4294967296 < 256) :
    Calls Tryd.prog 108 #[.int .u64 x] w fun e w' => e = .returned (.int .i64 (bitLen x)) ∧ w' = w := by
  obtain ⟨y32, e32⟩ : ∃ y, y = x / 4294967296 := ⟨_, rfl⟩
  rw [← e32] at h8
  have s32 : bitLen x = 32 + bitLen y32 := by rw [e32]; exact bit_shift rfl h32
  have i32 : (4294967296 : Int) ≤ (x : Int) := by omega
  have d32 : (x : Int) / 4294967296 = (y32 : Int) := by omega
  have l32 : y32 < 4294967296 := by omega
  have i16 : ¬ (65536 : Int) ≤ (y32 : Int) := by omega
  have i8 : ¬ (256 : Int) ≤ (y32 : Int) := by omega
  have hv : y32 < 256 := by omega
  have b8 := bitLen_le8 y32 hv
  have w8 : IntKind.u8.wrap (y32 : Int) = (y32 : Int) := by simp only [IntKind.wrap, IntKind.bits, IntKind.signed]; simp; omega
  have HB : Hid (bitLen x = 32 + bitLen y32) := hide (by omega)
  obtain ⟨z, hz⟩ : ∃ z, z = bitLen y32 := ⟨_, rfl⟩
  go_enter Tryd.func108, Tryd.ntmps108
  generalize hT : Value.string _ = tv
  have hidx : ∀ (w : World), (Instr.index 9 tv (.int .u8 (y32 : Int))).run Tryd.prog w = .ok (.int .u8 (z : Int)) w := by
    rw [← hT, hz]
    exact fun w => tab_index (by kernel_rfl) (fun i h => len8tab_get i h) y32 hv w
  have HZ := hide hz
  rw [← hz] at b8
  clear hT hz s32 e32
  go_wp2
  go_ret
  refine ⟨ret_len64 ?_, rfl⟩
  have := HB.out
  have := HZ.out
  omega

set_option maxHeartbeats 4000000 in
set_option maxRecDepth 1000000 in
theorem len64_101 (x : Nat) (w : World) (hx : x < 18446744073709551616) (h32 : 4294967296 ≤ x) (h16 : x / 4294967296 < 65536) (h8 : 256 ≤ x / 4294967296) :
    Calls Tryd.prog 108 #[.int .u64 x] w fun e w' => e = .returned (.int .i64 (bitLen x)) ∧ w' = w := by
  obtain ⟨y32, e32⟩ : ∃ y, y = x / 4294967296 := ⟨_, rfl⟩
  rw [← e32] at h16 h8
  have s32 : bitLen x = 32 + bitLen y32 := by rw [e32]; exact bit_shift rfl h32
  have i32 : (4294967296 : Int) ≤ (x : Int) := by omega
  have d32 : (x : Int) / 4294967296 = (y32 : Int) := by omega
  have l32 : y32 < 4294967296 := by omega
  have i16 : ¬ (65536 : Int) ≤ (y32 : Int) := by omega
  obtain ⟨y8, e8⟩ : ∃ y, y = y32 / 256 := ⟨_, rfl⟩
  have s8 : bitLen y32 = 8 + bitLen y8 := by rw [e8]; exact bit_shift rfl h8
  have i8 : (256 : Int) ≤ (y32 : Int) := by omega
  have d8 : (y32 : Int) / 256 = (y8 : Int) := by omega
  have l8 : y8 < 256 := by omega
  have hv : y8 < 256 := by omega
  have b8 := bitLen_le8 y8 hv
  have w8 : IntKind.u8.wrap (y8 : Int) = (y8 : Int) := by simp only [IntKind.wrap, IntKind.bits, IntKind.signed]; simp; omega
  have HB : Hid (bitLen x = 40 + bitLen y8) := hide (by omega)
  obtain ⟨z, hz⟩ : ∃ z, z = bitLen y8 := ⟨_, rfl⟩
  go_enter Tryd.func108, Tryd.ntmps108
  generalize hT : Value.string _ = tv
  have hidx : ∀ (w : World), (Instr.index 9 tv (.int .u8 (y8 : Int))).run Tryd.prog w = .ok (.int .u8 (z : Int)) w := by
    rw [← hT, hz]
    exact fun w => tab_index (by kernel_rfl) (fun i h => len8tab_get i h) y8 hv w
  have HZ := hide hz
  rw [← hz] at b8
  clear hT hz s32 s8 e32 e8
  go_wp2
  go_ret
  refine ⟨ret_len64 ?_, rfl⟩
  have := HB.out
  have := HZ.out
  omega

set_option maxHeartbeats 4000000 in
set_option maxRecDepth 1000000 in
theorem len64_110 (x : Nat) (w : World) (hx : x < 18446744073709551616) (h32 : 4294967296 ≤ x) (h16 : 65536 ≤ x / 4294967296) (h8 : x / 4294967296 / 65536 < 256) :
    Calls Tryd.prog 108 #[.int .u64 x] w fun e w' => e = .returned (.int .i64 (bitLen x)) ∧ w' = w := by
  obtain ⟨y32, e32⟩ : ∃ y, y = x / 4294967296 := ⟨_, rfl⟩
  rw [← e32] at h16 h8
  have s32 : bitLen x = 32 + bitLen y32 := by rw [e32]; exact bit_shift rfl h32
  have i32 : (4294967296 : Int) ≤ (x : Int) := by omega
  have d32 : (x : Int) / 4294967296 = (y32 : Int) := by omega
  have l32 : y32 < 4294967296 := by omega
  obtain ⟨y16, e16⟩ : ∃ y, y = y32 / 65536 := ⟨_, rfl⟩
  rw [← e16] at h8
  have s16 : bitLen y32 = 16 + bitLen y16 := by rw [e16]; exact bit_shift rfl h16
  have i16 : (65536 : Int) ≤ (y32 : Int) := by omega
  have d16 : (y32 : Int) / 65536 = (y16 : Int) := by omega
  have l16 : y16 < 65536 := by omega
  have i8 : ¬ (256 : Int) ≤ (y16 : Int) := by omega
  have hv : y16 < 256 := by omega
  have b8 := bitLen_le8 y16 hv
  have w8 : IntKind.u8.wrap (y16 : Int) = (y16 : Int) := by simp only [IntKind.wrap, IntKind.bits, IntKind.signed]; simp; omega
  have HB : Hid (bitLen x = 48 + bitLen y16) := hide (by omega)
  obtain ⟨z, hz⟩ : ∃ z, z = bitLen y16 := ⟨_, rfl⟩
  go_enter Tryd.func108, Tryd.ntmps108
  generalize hT : Value.string _ = tv
  have hidx : ∀ (w : World), (Instr.index 9 tv (.int .u8 (y16 : Int))).run Tryd.prog w = .ok (.int .u8 (z : Int)) w := by
    rw [← hT, hz]
    exact fun w => tab_index (by kernel_rfl) (fun i h => len8tab_get i h) y16 hv w
  have HZ := hide hz
  rw [← hz] at b8
  clear hT hz s32 s16 e32 e16
  go_wp2
  go_ret
  refine ⟨ret_len64 ?_, rfl⟩
  have := HB.out
  have := HZ.out
  omega

set_option maxHeartbeats 4000000 in
set_option maxRecDepth 1000000 in
theorem len64_111 (x : Nat) (w : World) (hx : x < 18446744073709551616) (h32 : 4294967296 ≤ x) (h16 : 65536 ≤ x / 4294967296) (h8 : 256 ≤ x / 4294967296 / 65536) :
    Calls Tryd.prog 108 #[.int .u64 x] w fun e w' => e = .returned (.int .i64 (bitLen x)) ∧ w' = w := by
  obtain ⟨y32, e32⟩ : ∃ y, y = x / 4294967296 := ⟨_, rfl⟩
  rw [← e32] at h16 h8
  have s32 : bitLen x = 32 + bitLen y32 := by rw [e32]; exact bit_shift rfl h32
  have i32 : (4294967296 : Int) ≤ (x : Int) := by omega
  have d32 : (x : Int) / 4294967296 = (y32 : Int) := by omega
  have l32 : y32 < 4294967296 := by omega
  obtain ⟨y16, e16⟩ : ∃ y, y = y32 / 65536 := ⟨_, rfl⟩
  rw [← e16] at h8
  have s16 : bitLen y32 = 16 + bitLen y16 := by rw [e16]; exact bit_shift rfl h16
  have i16 : (65536 : Int) ≤ (y32 : Int) := by omega
  have d16 : (y32 : Int) / 65536 = (y16 : Int) := by omega
  have l16 : y16 < 65536 := by omega
  obtain ⟨y8, e8⟩ : ∃ y, y = y16 / 256 := ⟨_, rfl⟩
  have s8 : bitLen y16 = 8 + bitLen y8 := by rw [e8]; exact bit_shift rfl h8
  have i8 : (256 : Int) ≤ (y16 : Int) := by omega
  have d8 : (y16 : Int) / 256 = (y8 : Int) := by omega
  have l8 : y8 < 256 := by omega
  have hv : y8 < 256 := by omega
  have b8 := bitLen_le8 y8 hv
  have w8 : IntKind.u8.wrap (y8 : Int) = (y8 : Int) := by simp only [IntKind.wrap, IntKind.bits, IntKind.signed]; simp; omega
  have HB : Hid (bitLen x = 56 + bitLen y8) := hide (by omega)
  obtain ⟨z, hz⟩ : ∃ z, z = bitLen y8 := ⟨_, rfl⟩
  go_enter Tryd.func108, Tryd.ntmps108
  generalize hT : Value.string _ = tv
  have hidx : ∀ (w : World), (Instr.index 9 tv (.int .u8 (y8 : Int))).run Tryd.prog w = .ok (.int .u8 (z : Int)) w := by
    rw [← hT, hz]
    exact fun w => tab_index (by kernel_rfl) (fun i h => len8tab_get i h) y8 hv w
  have HZ := hide hz
  rw [← hz] at b8
  clear hT hz s32 s16 s8 e32 e16 e8
  go_wp2
  go_ret
  refine ⟨ret_len64 ?_, rfl⟩
  have := HB.out
  have := HZ.out
  omega

theorem len64_any (x : Nat) (w : World) (hx : x < 18446744073709551616) :
    Calls Tryd.prog 108 #[.int .u64 x] w fun e w' => e = .returned (.int .i64 (bitLen x)) ∧ w' = w := by
  rcases Nat.lt_or_ge x 4294967296 with a | a
  · rcases Nat.lt_or_ge x 65536 with b | b
    · rcases Nat.lt_or_ge x 256 with c | c
      · exact len64_000 x w hx a b c
      · exact len64_001 x w hx a b c
    · rcases Nat.lt_or_ge (x / 65536) 256 with c | c
      · exact len64_010 x w hx a b c
      · exact len64_011 x w hx a b c
  · rcases Nat.lt_or_ge (x / 4294967296) 65536 with b | b
    · rcases Nat.lt_or_ge (x / 4294967296) 256 with c | c
      · exact len64_100 x w hx a b c
      · exact len64_101 x w hx a b c
    · rcases Nat.lt_or_ge (x / 4294967296 / 65536) 256 with c | c
      · exact len64_110 x w hx a b c
      · exact len64_111 x w hx a b c

set_option maxHeartbeats 1000000 in
theorem blen_any (x : Nat) (w : World) (hx : x < 18446744073709551616) :
    Calls Tryd.prog 90 #[.int .u64 x] w fun e w' => e = .returned (.int .i64 (bitLen x)) ∧ w' = w := by
  have K := len64_any x w hx
  go_enter Tryd.func90, Tryd.ntmps90
  go_wp2_with (go_at_call 108; refine K.mono ?_; rintro e w1 ⟨rfl, hw⟩; replace hw := hw.symm; subst hw)
  go_ret
  exact ⟨rfl, rfl⟩

/-- A head: its value is h, c limbs are cut off below, it has at most M limbs. -/
def HdD (h c M : Nat) (w : World) (a : Value) : Prop := ∃ v n g, a = .agg #[v, .int .i64 (c : Int)] ∧ Sl .u32 w v n g ∧ Can 4294967296 g n ∧ num 4294967296 g n = h ∧ n ≤ M
theorem HdD.up {h c M : Nat} {w w' : World} {a : Value} (k : HdD h c M w a) (u : Up w w') : HdD h c M w' a := by
  obtain ⟨v, n, g, e, s, r⟩ := k
  exact ⟨v, n, g, e, s.up u, r⟩

theorem num_low {f : Nat → Nat} {n x : Nat} (hf : ∀ i, i < n → f i < 4294967296) (hx : x ≤ n) : num 4294967296 (fun i => f (x + i)) (n - x) = num 4294967296 f n / 4294967296 ^ x := by
  have h1 := num_split 4294967296 f x (n - x)
  rw [show x + (n - x) = n by omega] at h1
  have h2 : num 4294967296 f x < 4294967296 ^ x := num_lt fun i hi => hf i (by omega)
  rw [h1, Nat.add_mul_div_left _ _ (Nat.lt_of_le_of_lt (Nat.zero_le _) h2), Nat.div_eq_of_lt h2, Nat.zero_add]
theorem can_cut {f : Nat → Nat} {n x : Nat} (hc : Can 4294967296 f n) (hx : x ≤ n) : Can 4294967296 (fun i => f (x + i)) (n - x) := by
  refine ⟨fun i hi => hc.1 _ (by omega), ?_⟩
  rcases Nat.eq_or_lt_of_le hx with e | e
  · exact .inl (by omega)
  · right
    rcases hc.2 with e2 | e2
    · omega
    · show f (x + (n - x - 1)) ≠ 0
      rw [show x + (n - x - 1) = n - 1 by omega]
      exact e2
theorem can_pos {f : Nat → Nat} {n : Nat} (hc : Can 4294967296 f n) : 0 < num 4294967296 f n ↔ 0 < n := by
  constructor
  · intro h
    rcases Nat.eq_zero_or_pos n with e | e
    · subst e; simp [num] at h
    · exact e
  · intro h
    have := num_ge (B := 4294967296) h (by rcases hc.2 with e | e; omega; exact e)
    have h2 : 0 < 4294967296 ^ (n - 1) := Nat.pow_pos (by decide)
    omega
theorem can_one {f : Nat → Nat} {n : Nat} (hc : Can 4294967296 f n) (h : num 4294967296 f n < 4294967296) : n ≤ 1 := by
  rcases Nat.lt_or_ge 1 n with e | e
  · exfalso
    have := num_ge (B := 4294967296) (show 0 < n by omega) (by rcases hc.2 with e | e; omega; exact e)
    have h2 : 4294967296 ^ 1 ≤ 4294967296 ^ (n - 1) := Nat.pow_le_pow_right (by decide) (by omega)
    omega
  · exact e

/-- A list of limbs does not lie in a head's own block. -/
theorem sl_other {w1 wf : World} {g : Nat} {a : Option Addr} {m c : Nat} {z : Int} {E : TypeId} {u : Value} {n : Nat} {f : Nat → Nat} (hb : w1.heap[g]? = some (.cells #[.slice a m c, .int .i64 z] E (0, 0))) (hs : Sl .u32 w1 u n f) (hf : ∀ k, k ≠ g → wf.heap[k]? = w1.heap[k]?) : Sl .u32 wf u n f := by
  obtain ⟨ao, cap, rfl, h1, h2, h0, h3⟩ := hs
  refine ⟨ao, cap, rfl, h1, h2, h0, ?_⟩
  rcases h3 with e | ⟨b, off, rfl, hc⟩
  · exact .inl e
  · refine .inr ⟨b, off, rfl, fun i hi => ?_⟩
    have hci := hc i hi
    by_cases e : b = g
    · exfalso
      subst e
      simp only [World.cell?, hb] at hci
      match ho : off + i with
      | 0 => rw [ho] at hci; simp at hci
      | 1 => rw [ho] at hci; simp at hci
      | j + 2 => rw [ho] at hci; simp at hci
    · exact (World.cell?_of_block (w := w1) (hf b e)).trans hci

/-- What comes of a product of heads. -/
structure TimesAt (h1 c1 M1 h2 c2 M2 : Nat) (kp : Int) (w w' : World) (v : Value) (x : Nat) : Prop where
  hd : HdD (h1 * h2 / 4294967296 ^ x) (c1 + c2 + x) (M1 + M2) w' v
  pos : 0 < h1 * h2 → 0 < h1 * h2 / 4294967296 ^ x
  whole : ((M1 + M2 : Nat) : Int) ≤ kp → x = 0
  small : h1 * h2 < 4294967296 → x = 0
  le : x ≤ M1 + M2
  U : Up w w'

theorem times_of {h1 c1 M1 h2 c2 M2 : Nat} {kp : Int} {w W w2 : World} {n' x c : Nat} {f' : Nat → Nat} {u v' : Value} (hc : Can 4294967296 f' n') (hn : n' ≤ M1 + M2) (hv : num 4294967296 f' n' = h1 * h2) (hx : x ≤ n') (hx0 : x ≠ 0 → x < n') (hs : Sl .u32 W u (n' - x) (fun i => f' (x + i))) (hw : (n' : Int) ≤ kp → u = v' ∧ x = 0) (hW : Up W w2) (hU : Up w w2) (hcc : c = c1 + c2 + x) : TimesAt h1 c1 M1 h2 c2 M2 kp w w2 (.agg #[u, .int .i64 (c : Int)]) x := by
  subst hcc
  refine ⟨⟨u, n' - x, _, rfl, hs.up hW, can_cut hc hx, by rw [num_low hc.1 hx, hv], by omega⟩, fun h => ?_, fun h => (hw (by omega)).2, fun h => ?_, by omega, hU⟩
  · rw [← hv] at h ⊢
    rw [← num_low hc.1 hx]
    have := (can_pos hc).1 h
    exact (can_pos (can_cut hc hx)).2 (by by_cases e : x = 0; omega; have := hx0 e; omega)
  · rw [← hv] at h
    have := can_one hc h
    by_cases e : x = 0
    · exact e
    · have := hx0 e; omega

set_option maxRecDepth 20000 in
set_option maxHeartbeats 4000000 in
theorem headTimes_any (a b : Value) (h1 c1 M1 h2 c2 M2 : Nat) (kp : Int) (w : World) (ha : HdD h1 c1 M1 w a) (hb : HdD h2 c2 M2 w b) (hk1 : 1 ≤ kp) (hk2 : kp ≤ 9223372036854775807) (hM : M1 + M2 ≤ 1000000000) (hc1 : c1 ≤ 1000000000000) (hc2 : c2 ≤ 1000000000000) :
    Calls Tryd.prog 91 #[a, b, .int .i64 kp] w fun e w' => ∃ v x, e = .returned v ∧ TimesAt h1 c1 M1 h2 c2 M2 kp w w' v x := by
  obtain ⟨v1, n1, g1, rfl, s1, k1, e1, l1⟩ := ha
  obtain ⟨v2, n2, g2, rfl, s2, k2, e2, l2⟩ := hb
  obtain ⟨ao1, cap1, rfl, -⟩ := id s1
  obtain ⟨ao2, cap2, rfl, -⟩ := id s2
  obtain ⟨cc, hcc⟩ : ∃ cc, cc = c1 + c2 := ⟨_, rfl⟩
  have hccI : (c1 : Int) + (c2 : Int) = (cc : Int) := by omega
  have hccl : cc ≤ 2000000000000 := by omega
  have hwcc : IntKind.i64.wrap (cc : Int) = (cc : Int) := by
    simp only [IntKind.wrap, IntKind.bits, IntKind.signed]
    simp
    omega
  obtain ⟨W0, hW0⟩ : ∃ W0, W0 = (((w.alloc (.cells #[.slice ao1 n1 cap1, .int .i64 (c1 : Int)] 96)).alloc (.cells #[.slice ao2 n2 cap2, .int .i64 (c2 : Int)] 96)).alloc (.cells #[.slice none 0 0, .int .i64 0] 96)) := ⟨_, rfl⟩
  have tb : W0.heap[w.heap.size]? = some (.cells #[.slice ao1 n1 cap1, .int .i64 (c1 : Int)] 96 (0, 0)) ∧ W0.heap[w.heap.size + 1]? = some (.cells #[.slice ao2 n2 cap2, .int .i64 (c2 : Int)] 96 (0, 0)) ∧ W0.heap[w.heap.size + 1 + 1]? = some (.cells #[.slice none 0 0, .int .i64 0] 96 (0, 0)) := by rw [hW0]; exact three_blocks w _ _ _
  have U0 : Up w W0 := by rw [hW0]; exact ((up_alloc _ _).tr (up_alloc _ _)).tr (up_alloc _ _)
  obtain ⟨x0, x1, _, _, _⟩ := cells2 tb.1
  obtain ⟨y0, y1, _, _, _⟩ := cells2 tb.2.1
  have HT := hide tb
  have HU0 := hide U0
  have HW0 := hide hW0
  clear tb U0 hW0
  have HS1 := hide s1
  have HS2 := hide s2
  have HK1 := hide k1.1
  have HK2 := hide k2.1
  have HE := hide (And.intro e1 e2)
  have HCC := hide hcc
  clear s1 s2 k1 k2 e1 e2 hcc
  go_enter Tryd.func91, Tryd.ntmps91
  go_wp2
  rw [← HW0.out]
  go_region_held3 (fun w' => w'.cell? ⟨w.heap.size, 0, none⟩ = some (.slice ao1 n1 cap1) ∧ w'.cell? ⟨w.heap.size, 1, none⟩ = some (.int .i64 (c1 : Int)) ∧ w'.cell? ⟨w.heap.size + 1, 0, none⟩ = some (.slice ao2 n2 cap2) ∧ w'.cell? ⟨w.heap.size + 1, 1, none⟩ = some (.int .i64 (c2 : Int))) (first | exact ⟨keep2 (by omega) x20, keep2 (by omega) x21, keep2 (by omega) y20, keep2 (by omega) y21⟩ | (go_keep; done))
    (first
      | (go_at_call 79; refine (mul2 (.slice ao1 n1 cap1) (.slice ao2 n2 cap2) n1 n2 g1 g2 W0.drew (HS1.out.up (HU0.out.tr (up_drew _))) (HS2.out.up (HU0.out.tr (up_drew _))) HK1.out HK2.out (by omega)).mono ?_; rintro e w1 ⟨v', n', f', rfl, o', bel, can', le', val'⟩; have U1 : Up W0 w1 := (up_drew W0).tr bel; obtain ⟨x10, x11, _, _, _⟩ := cells2 (U1.blk HT.out.1); obtain ⟨y10, y11, _, _, _⟩ := cells2 (U1.blk HT.out.2.1); have HU1 := hide U1; have HO := hide o'.sl; obtain ⟨ao', cp', hv', -⟩ := id o'.sl; subst hv'; have HC := hide can'; have HV := hide val'; clear U1 o' bel can' val')
      | (go_at_call 89; refine (headOf_any (.slice ao' n' cp') n' f' cc kp w1 HO.out hk1 hk2 (by omega) (by omega)).mono ?_; rintro e w2 ⟨u, x, rfl, hx, hx0, hs, hw, U2⟩; have U2' : Up W0 w2 := HU1.out.tr U2; obtain ⟨x20, x21, _, _, _⟩ := cells2 (U2'.blk HT.out.1); obtain ⟨y20, y21, _, _, _⟩ := cells2 (U2'.blk HT.out.2.1); obtain ⟨z20, z21, f20, f21, _⟩ := cells2 (U2'.blk HT.out.2.2); have HU2 := hide U2'; have HU2b := hide U2; obtain ⟨au, cu, hu, -⟩ := id hs; subst hu; have HR := hide (And.intro hx (And.intro hx0 (And.intro hs hw))); clear U2 U2' hx hx0 hs hw))
  go_wp2
  have bb := HU2.out.blk HT.out.2.2
  have hb1 := heap_setCell_same w2 (w.heap.size + 1 + 1) 0 _ _ (.slice au (n' - x) cu) bb
  have hb2 := heap_setCell_same _ (w.heap.size + 1 + 1) 1 _ _ (.int .i64 ((cc : Int) + (x : Int))) hb1
  obtain ⟨r0, r1, _, _, _⟩ := cells2 hb2
  refine bodyPost_ret (by simp [results, Tryd.results91, go_sem, r0, r1]; rfl) rfl ?_
  obtain ⟨q1, q2, q3, q4⟩ := HR.out
  have hT := (turn_setCell w2 (w.heap.size + 1 + 1) 0 (.slice au (n' - x) cu)).trans (turn_setCell _ (w.heap.size + 1 + 1) 1 (.int .i64 ((cc : Int) + (x : Int))))
  have hs3 := sl_other bb (q3.up HU2b.out) (fun k hk => hT.block k hk)
  have hcI : ((c1 + c2 + x : Nat) : Int) = (cc : Int) + (x : Int) := by have := HCC.out; omega
  have hUf : Up w ((w2.setCell ⟨w.heap.size + 1 + 1, 0, none⟩ (.slice au (n' - x) cu)).setCell ⟨w.heap.size + 1 + 1, 1, none⟩ (.int .i64 ((cc : Int) + (x : Int)))) := (HU0.out.tr HU2.out).set2 (by omega)
  refine ⟨_, x, rfl, ?_⟩
  generalize (w2.setCell ⟨w.heap.size + 1 + 1, 0, none⟩ (.slice au (n' - x) cu)).setCell ⟨w.heap.size + 1 + 1, 1, none⟩ (.int .i64 ((cc : Int) + (x : Int))) = wf at hs3 hUf ⊢
  rw [← hcI]
  exact times_of HC.out (Nat.le_trans le' (by omega)) (by rw [HV.out, HE.out.1, HE.out.2]) q1 q2 hs3 q4 (Up.refl _) hUf rfl

set_option maxRecDepth 20000 in
set_option maxHeartbeats 1000000 in
theorem sizeBits_any (v : Value) (n : Nat) (f : Nat → Nat) (w : World) (hv : Sl .u32 w v n f) (hf : ∀ i, i < n → f i < 4294967296) (hn : n ≤ 100000000000000000) :
    Calls Tryd.prog 109 #[v] w fun e w' => e = .returned (.int .i64 (bitLen (num 4294967296 f n))) ∧ w' = w := by
  have K := bits_any v n f w hv hf hn
  obtain ⟨ao, cap, rfl, -⟩ := id hv
  go_enter Tryd.func109, Tryd.ntmps109
  go_wp2_with (go_at_call 125; refine K.mono ?_; rintro e w1 ⟨rfl, hw⟩; replace hw := hw.symm; subst hw)
  go_ret
  exact ⟨rfl, rfl⟩

set_option maxRecDepth 20000 in
set_option maxHeartbeats 4000000 in
theorem isOver_any (a : Value) (h c M limit : Nat) (w : World) (ha : HdD h c M w a) (hM : M ≤ 1000000000) (hc : c ≤ 10000000000000) (hl : limit ≤ 1000000000) :
    Calls Tryd.prog 92 #[a, .int .i64 (limit : Int)] w fun e w' => e = .returned (.bool (decide (limit < 32 * c + bitLen h))) ∧ Up w w' := by
  obtain ⟨v, n, g, rfl, s, k, e, l⟩ := ha
  obtain ⟨ao, cap, rfl, -⟩ := id s
  obtain ⟨q, hq⟩ : ∃ q, q = limit / 32 := ⟨_, rfl⟩
  have hqI : (limit : Int) / 32 = (q : Int) := by omega
  have hwq : IntKind.i64.wrap (q : Int) = (q : Int) := by
    simp only [IntKind.wrap, IntKind.bits, IntKind.signed]
    simp
    omega
  have W1 : (w.alloc (.cells #[.slice ao n cap, .int .i64 (c : Int)] 96)).cell? ⟨w.heap.size, 0, none⟩ = some (.slice ao n cap) ∧ (w.alloc (.cells #[.slice ao n cap, .int .i64 (c : Int)] 96)).cell? ⟨w.heap.size, 1, none⟩ = some (.int .i64 (c : Int)) := by
    obtain ⟨r0, r1, _⟩ := cells2 (heap_alloc_new w (.cells #[.slice ao n cap, .int .i64 (c : Int)] 96))
    exact ⟨r0, r1⟩
  by_cases hcq : q < c
  · have g1 : decide ((q : Int) < (c : Int)) = true := decide_eq_true (by omega)
    have g3 : decide (q < c) = true := decide_eq_true hcq
    have g2 : (q : Int) < (c : Int) := by omega
    rw [show decide (limit < 32 * c + bitLen h) = true from decide_eq_true (by omega)]
    clear s hq hcq
    go_enter Tryd.func92, Tryd.ntmps92
    go_wp2
    go_quiet (fail)
    go_wp2
    go_ret
    exact ⟨rfl, (up_alloc _ _).tr (up_drewN _ _)⟩
  · have g1 : decide ((q : Int) < (c : Int)) = false := decide_eq_false (by omega)
    have g3 : decide (q < c) = false := decide_eq_false hcq
    have g2 : ¬ (q : Int) < (c : Int) := by omega
    obtain ⟨r, hr⟩ : ∃ r, r + 32 * c = limit := ⟨limit - 32 * c, by omega⟩
    have hrI : (limit : Int) - (c : Int) * 32 = (r : Int) := by omega
    have hcw : IntKind.i64.wrap ((c : Int) * 32) = (c : Int) * 32 := by
      simp only [IntKind.wrap, IntKind.bits, IntKind.signed]
      simp
      omega
    have hrw : IntKind.i64.wrap (r : Int) = (r : Int) := by
      simp only [IntKind.wrap, IntKind.bits, IntKind.signed]
      simp
      omega
    have KB := fun w1 (u : Up w w1) => sizeBits_any (.slice ao n cap) n g w1 (s.up u) k.1 (by omega)
    rw [e] at KB
    have hd : decide (limit < 32 * c + bitLen h) = decide (r < bitLen h) := by
      by_cases h5 : r < bitLen h
      · rw [decide_eq_true (by omega), decide_eq_true (by omega)]
      · rw [decide_eq_false (by omega), decide_eq_false (by omega)]
    rw [hd]
    generalize bitLen h = bl at *
    have HKB := hide KB
    clear s KB hd hr hq hcq
    go_enter Tryd.func92, Tryd.ntmps92
    go_wp2
    go_quiet ((go_at_call 109; exact Calls.quiet_of_same (HKB.out _ ((up_alloc _ _).tr (up_drewN _ _)))))
    go_wp2
    go_ret
    exact ⟨rfl, (up_alloc _ _).tr (up_drewN _ _)⟩

theorem bitLen_mono {x y : Nat} (h : x ≤ y) : bitLen x ≤ bitLen y := by
  unfold bitLen
  split
  · omega
  · rename_i hx
    rw [if_neg (by omega)]
    have : x.log2 ≤ y.log2 := by
      rw [Nat.le_log2 (by omega)]
      exact Nat.le_trans (Nat.log2_self_le hx) h
    omega
theorem bitLen_up {h : Nat} (hh : 0 < h) : ∀ c, bitLen (h * 4294967296 ^ c) = bitLen h + 32 * c
  | 0 => by simp
  | c + 1 => by
    have h1 : 0 < h * 4294967296 ^ c := Nat.mul_pos hh (Nat.pow_pos (by decide))
    have e : h * 4294967296 ^ (c + 1) / 2 ^ 32 = h * 4294967296 ^ c := by
      rw [Nat.pow_succ, ← Nat.mul_assoc]
      exact Nat.mul_div_cancel _ (by decide)
    have := bitLen_shift (h * 4294967296 ^ (c + 1)) 32 (by rw [e]; omega)
    rw [this, e, bitLen_up hh c]
    omega

/-- The head (h, c) of the power m of X. -/
structure PwI (X : Nat) (big : Prop) (m h c : Nat) : Prop where
  low : h * 4294967296 ^ c ≤ X ^ m
  eq : big → c = 0 ∧ h = X ^ m
  pos : 0 < X → 0 < h
  zero : X = 0 → c = 0 ∧ h ≤ 1
theorem PwI.one (X : Nat) (big : Prop) : PwI X big 0 1 0 := ⟨by simp, fun _ => ⟨rfl, by simp⟩, fun _ => by decide, fun _ => ⟨rfl, Nat.le_refl _⟩⟩
theorem PwI.times {X : Nat} {big : Prop} {m h c m' h' c' x : Nat} (p : PwI X big m h c) (q : PwI X big m' h' c') (hp : 0 < h * h' → 0 < h * h' / 4294967296 ^ x) (hb : big → x = 0) (hs : h * h' < 4294967296 → x = 0) : PwI X big (m + m') (h * h' / 4294967296 ^ x) (c + c' + x) := by
  refine ⟨?_, fun b => ?_, fun h0 => hp (Nat.mul_pos (p.pos h0) (q.pos h0)), fun h0 => ?_⟩
  · rw [Nat.pow_add, Nat.pow_add, Nat.pow_add, ← Nat.mul_assoc, Nat.mul_right_comm]
    have h1 : h * h' / 4294967296 ^ x * 4294967296 ^ x ≤ h * h' := Nat.div_mul_le_self _ _
    calc h * h' / 4294967296 ^ x * 4294967296 ^ x * (4294967296 ^ c * 4294967296 ^ c') ≤ h * h' * (4294967296 ^ c * 4294967296 ^ c') := Nat.mul_le_mul_right _ h1
      _ = (h * 4294967296 ^ c) * (h' * 4294967296 ^ c') := by ac_rfl
      _ ≤ X ^ m * X ^ m' := Nat.mul_le_mul p.low q.low
  · obtain ⟨e1, e2⟩ := p.eq b
    obtain ⟨e3, e4⟩ := q.eq b
    rw [hb b, e1, e3, e2, e4, Nat.pow_zero, Nat.div_one, Nat.pow_add]
    exact ⟨rfl, rfl⟩
  · obtain ⟨e1, e2⟩ := p.zero h0
    obtain ⟨e3, e4⟩ := q.zero h0
    have h1 : h * h' ≤ 1 := Nat.mul_le_mul e2 e4
    have hx := hs (by omega)
    rw [hx, e1, e3, Nat.pow_zero, Nat.div_one]
    exact ⟨rfl, h1⟩
/-- A head that has too many digits: so has the power. -/
theorem PwI.over {X : Nat} {big : Prop} {m h c n limit : Nat} (p : PwI X big m h c) (hmn : m ≤ n) (hm : 0 < m ∨ m = n) (ho : limit < 32 * c + bitLen h) : limit < bitLen (X ^ n) := by
  rcases Nat.eq_zero_or_pos X with e | e
  · obtain ⟨e1, e2⟩ := p.zero e
    have h1 := p.low
    rw [e1, Nat.pow_zero, Nat.mul_one] at h1
    rw [e1] at ho
    rcases hm with hm | hm
    · exfalso
      rw [e, Nat.zero_pow hm] at h1
      have : h = 0 := by omega
      rw [this, bitLen_zero] at ho
      omega
    · rw [← hm]
      have := bitLen_mono h1
      omega
  · have h1 := bitLen_up (p.pos e) c
    have h2 := bitLen_mono p.low
    have h3 := bitLen_mono (Nat.pow_le_pow_right e hmn)
    omega

/-- What the loop of raise keeps: the factor's box, the power's box. -/
structure RsI (w : World) (X : Nat) (big : Prop) (nb Bf Bp : Nat) (af : Option Addr) (nf pf x F : Nat) (m h c M : Nat) (ap : Option Addr) (np pp : Nat) (W : World) : Prop where
  U : Up w W
  bf : W.heap[Bf]? = some (.cells #[.slice af nf pf, .int .i64 (x : Int)] 96 (0, 0))
  hf : HdD F x nb W (.agg #[.slice af nf pf, .int .i64 (x : Int)])
  pf : PwI X big 1 F x
  xl : x ≤ nb
  bp : W.heap[Bp]? = some (.cells #[.slice ap np pp, .int .i64 (c : Int)] 96 (0, 0))
  hp : HdD h c M W (.agg #[.slice ap np pp, .int .i64 (c : Int)])
  pp : PwI X big m h c
  ne : Bf ≠ Bp
  lp : w.heap.size ≤ Bp

theorem HdD.other {h c M : Nat} {w1 wf : World} {g : Nat} {a : Option Addr} {m k : Nat} {z : Int} {E : TypeId} {v : Value} (hb : w1.heap[g]? = some (.cells #[.slice a m k, .int .i64 z] E (0, 0))) (hd : HdD h c M w1 v) (hf : ∀ k, k ≠ g → wf.heap[k]? = w1.heap[k]?) : HdD h c M wf v := by
  obtain ⟨u, n, q, e, s, r⟩ := hd
  exact ⟨u, n, q, e, sl_other hb s hf, r⟩
theorem HdD.form {h c M : Nat} {w : World} {v : Value} (hd : HdD h c M w v) : ∃ a n k, v = .agg #[.slice a n k, .int .i64 (c : Int)] := by
  obtain ⟨u, n, q, e, ⟨a, k, rfl, _⟩, _⟩ := hd
  exact ⟨a, n, k, e⟩

/-- The power is stored anew. -/
theorem RsI.store {w : World} {X : Nat} {big : Prop} {nb Bf Bp : Nat} {af : Option Addr} {nf pf x F : Nat} {m h c M : Nat} {ap : Option Addr} {np pp : Nat} {W w1 : World} (k : RsI w X big nb Bf Bp af nf pf x F m h c M ap np pp W) (u : Up W w1) {a : Option Addr} {n q h' c' M' m' : Nat} (hd : HdD h' c' M' w1 (.agg #[.slice a n q, .int .i64 (c' : Int)])) (p : PwI X big m' h' c') :
    RsI w X big nb Bf Bp af nf pf x F m' h' c' M' a n q ((w1.setCell ⟨Bp, 0, none⟩ (.slice a n q)).setCell ⟨Bp, 1, none⟩ (.int .i64 (c' : Int))) := by
  obtain ⟨t, b⟩ := sto_two (u.blk k.bp) (.slice a n q) (.int .i64 (c' : Int))
  have hb := u.blk k.bp
  exact ⟨t.up (k.U.tr u) k.lp, (t.block _ k.ne).trans (u.blk k.bf), (k.hf.up u).other hb t.block, k.pf, k.xl, b, hd.other hb t.block, p, k.ne, k.lp⟩

/-- How a head's limbs are bounded by its digits. -/
theorem HdD.tight {h c M : Nat} {w : World} {v : Value} (hd : HdD h c M w v) {L : Nat} (hL : bitLen h ≤ L) : HdD h c L w v := by
  obtain ⟨u, n, q, e, s, k, hv, _⟩ := hd
  refine ⟨u, n, q, e, s, k, hv, ?_⟩
  rcases Nat.eq_zero_or_pos n with e0 | e0
  · omega
  · have ht : q (n - 1) ≠ 0 := by rcases k.2 with e1 | e1; omega; exact e1
    have := bitLen_num k.1 e0 ht
    rw [hv] at this
    have h2 : 0 < bitLen (q (n - 1)) := by unfold bitLen; rw [if_neg ht]; omega
    omega

theorem factor_pw {X : Nat} {big : Prop} {nb x : Nat} {g : Nat → Nat} (hc : Can 4294967296 g nb) (hX : num 4294967296 g nb = X) (hx : x ≤ nb) (hx0 : x ≠ 0 → x < nb) (hb : big → x = 0) : PwI X big 1 (X / 4294967296 ^ x) x := by
  refine ⟨by rw [Nat.pow_one]; exact Nat.div_mul_le_self _ _, fun b => by rw [hb b]; simp, fun h0 => ?_, fun h0 => ?_⟩
  · rw [← hX, ← num_low hc.1 hx]
    rw [← hX] at h0
    have := (can_pos hc).1 h0
    exact (can_pos (can_cut hc hx)).2 (by by_cases e : x = 0; omega; have := hx0 e; omega)
  · have : ¬ 0 < nb := fun e => by have := (can_pos hc).2 e; omega
    have e : x = 0 := by omega
    rw [e, h0]
    simp

theorem bitLen_top {n : Nat} (hn : 0 < n) : 2 ^ (bitLen n - 1) ≤ n ∧ n < 2 ^ bitLen n := by
  unfold bitLen
  rw [if_neg (by omega)]
  exact ⟨Nat.log2_self_le (by omega), Nat.lt_log2_self⟩

theorem i64_and1 (n : Int) : bits .and .i64 n 1 = n % 2 := by
  have h1 : (BitVec.ofInt 64 1).toNat = 2 ^ 1 - 1 := by decide
  have key : (BitVec.ofInt 64 n &&& BitVec.ofInt 64 1).toNat = (n % ((2 ^ 64 : Nat) : Int)).toNat % 2 ^ 1 := by
    rw [BitVec.toNat_and, BitVec.toNat_ofInt, h1, Nat.and_two_pow_sub_one_eq_mod]
  show IntKind.i64.wrap ((BitVec.ofInt 64 n &&& BitVec.ofInt 64 1).toNat : Nat) = n % 2
  rw [key, IntKind.wrap_i64]
  omega
theorem RsI.tight {w : World} {X : Nat} {big : Prop} {nb Bf Bp : Nat} {af : Option Addr} {nf pf x F : Nat} {m h c M L : Nat} {ap : Option Addr} {np pp : Nat} {W W' : World} (k : RsI w X big nb Bf Bp af nf pf x F m h c M ap np pp W) (hL : bitLen h ≤ L) (u : Up W W') : RsI w X big nb Bf Bp af nf pf x F m h c L ap np pp W' :=
  ⟨k.U.tr u, u.blk k.bf, k.hf.up u, k.pf, k.xl, u.blk k.bp, (k.hp.tight hL).up u, k.pp, k.ne, k.lp⟩

set_option maxRecDepth 20000 in
set_option maxHeartbeats 4000000 in
theorem raise_any (v : Value) (nb : Nat) (g : Nat → Nat) (X n limit : Nat) (kp : Int) (big : Prop) (w : World) (hs : Sl .u32 w v nb g) (hc : Can 4294967296 g nb) (hX : num 4294967296 g nb = X) (hnb : nb ≤ 2000000) (hn : n < 9223372036854775808) (hl : limit ≤ 1000000) (hk1 : 1 ≤ kp) (hk2 : kp ≤ 9223372036854775807) (hbig : big → (100000000 : Int) ≤ kp) :
    Calls Tryd.prog 67 #[v, .int .i64 (n : Int), .int .i64 (limit : Int), .int .i64 kp] w fun e w' => ∃ u b, e = .returned (.tuple #[u, .bool b]) ∧ (b = false → limit < bitLen (X ^ n)) ∧ (big → b = true → bitLen (X ^ n) ≤ limit ∧ ∃ m q, Sl .u32 w' u m q ∧ Can 4294967296 q m ∧ num 4294967296 q m = X ^ n) ∧ Up w w' := by
  obtain ⟨ao, cap, rfl, -⟩ := id hs
  have KH := headOf_any (.slice ao nb cap) nb g 0 kp w hs hk1 hk2 (by omega) (by omega)
  have KL := fun w1 => blen_any n w1 (by omega)
  have hnw : IntKind.u64.wrap (n : Int) = (n : Int) := by
    simp only [IntKind.wrap, IntKind.bits, IntKind.signed]
    simp
    omega
  have HKH := hide KH
  have HC := hide (And.intro hc hX)
  have HB := hide hbig
  obtain ⟨L, hL⟩ : ∃ L, L = bitLen n := ⟨_, rfl⟩
  rw [← hL] at KL
  have hL64 : L ≤ 63 := by
    rcases Nat.eq_zero_or_pos n with e | e
    · rw [hL, e, bitLen_zero]; omega
    · have := (bitLen_top e).1
      rw [← hL] at this
      rcases Nat.lt_or_ge 63 L with h6 | h6
      · exfalso
        have : 2 ^ 63 ≤ 2 ^ (L - 1) := Nat.pow_le_pow_right (by decide) (by omega)
        have h9 : (2 : Nat) ^ 63 = 9223372036854775808 := by decide
        omega
      · exact h6
  have HL := hide hL
  clear KH hs hc hX hbig hL
  go_enter Tryd.func67, Tryd.ntmps67
  go_wp2_with (first
    | (go_at_call 89; refine HKH.out.mono ?_; rintro e w1 ⟨u, x, rfl, hx, hx0, hsu, hw, U1⟩; obtain ⟨af, pf, hu, -⟩ := id hsu; subst hu; have HSU := hide (And.intro hx (And.intro hx0 (And.intro hsu hw))); have HU1 := hide U1; clear hx hx0 hsu hw U1)
    | (go_at_call 90; refine (KL _).mono ?_; rintro e w2 ⟨rfl, hw2⟩; replace hw2 := hw2.symm; subst hw2))
  have R0 : RsI w X big nb w1.heap.size (w1.heap.size + 1 + 1) af (nb - x) pf x (X / 4294967296 ^ x) 0 1 0 (limit + 2) (some ⟨w1.heap.size + 1, 0, none⟩) 1 1 (((w1.alloc (.cells #[.slice af (nb - x) pf, .int .i64 (x : Int)] 96)).alloc (.cells #[.int .u32 1] 64)).alloc (.cells #[.slice (some ⟨w1.heap.size + 1, 0, none⟩) 1 1, .int .i64 0] 96)) := by
    obtain ⟨q1, q2, q3, q4⟩ := HSU.out
    obtain ⟨t1, t2, t3⟩ := three_blocks w1 (.cells #[.slice af (nb - x) pf, .int .i64 (x : Int)] 96) (.cells #[.int .u32 1] 64) (.cells #[.slice (some ⟨w1.heap.size + 1, 0, none⟩) 1 1, .int .i64 0] 96)
    have U3 : Up w1 (((w1.alloc (.cells #[.slice af (nb - x) pf, .int .i64 (x : Int)] 96)).alloc (.cells #[.int .u32 1] 64)).alloc (.cells #[.slice (some ⟨w1.heap.size + 1, 0, none⟩) 1 1, .int .i64 0] 96)) := ((up_alloc _ _).tr (up_alloc _ _)).tr (up_alloc _ _)
    generalize ((w1.alloc (.cells #[.slice af (nb - x) pf, .int .i64 (x : Int)] 96)).alloc (.cells #[.int .u32 1] 64)).alloc (.cells #[.slice (some ⟨w1.heap.size + 1, 0, none⟩) 1 1, .int .i64 0] 96) = W at *
    have hu1 := HU1.out.size
    refine ⟨HU1.out.tr U3, t1, ⟨_, nb - x, _, rfl, q3.up (HU1.out.tr U3), can_cut HC.out.1 q1, by rw [num_low HC.out.1.1 q1, HC.out.2], by omega⟩, factor_pw HC.out.1 HC.out.2 q1 q2 (fun b => (q4 (by have := HB.out b; omega)).2), q1, t3, ⟨_, 1, fun _ => 1, rfl, ?_, ⟨fun i hi => (by decide : (1 : Nat) < 4294967296), .inr (by decide)⟩, by simp [num], by omega⟩, PwI.one X big, by omega, by omega⟩
    refine ⟨_, 1, rfl, Nat.le_refl _, by decide, (fun e => by cases e), .inr ⟨w1.heap.size + 1, 0, rfl, fun i hi => ?_⟩⟩
    have e0 : i = 0 := by omega
    subst e0
    exact cell_of_row W _ 0 _ _ _ t2
  have HR0 := hide R0
  clear R0
  go_loopw [12] (fun a12 wr => ∃ j h c ap np pp, j ≤ L ∧ a12 = .int .i64 ((j : Int) - 1) ∧ RsI w X big nb w1.heap.size (w1.heap.size + 1 + 1) af (nb - x) pf x (X / 4294967296 ^ x) (n / 2 ^ j) h c (limit + 2) ap np pp wr ∧ c ≤ limit ∧ bitLen h ≤ limit + 1) (fun a12 _ => (intOf a12 + 1).toNat)
  case atStart =>
    refine ⟨L, 1, 0, some ⟨w1.heap.size + 1, 0, none⟩, 1, 1, Nat.le_refl _, rfl, ?_, Nat.zero_le _, ?_⟩
    · have e : n / 2 ^ L = 0 := by
        rcases Nat.eq_zero_or_pos n with e | e
        · rw [e]; exact Nat.zero_div _
        · rw [HL.out]; exact Nat.div_eq_of_lt (bitLen_top e).2
      rw [e]
      exact HR0.out
    · have : bitLen 1 = 1 := by decide
      omega
  case round =>
    obtain ⟨j, h, c, ap, np, pp, hjL, rfl, hR, hcl, hbl⟩ := hrel
    rcases Nat.eq_zero_or_pos j with hj0 | hj0
    · subst hj0
      rw [show (((0 : Nat) : Int) - 1) = (-1 : Int) by omega]
      rw [show n / 2 ^ 0 = n by simp] at hR
      obtain ⟨p0, p1, z0, z1, _⟩ := cells2 hR.bp
      have HR := hide hR
      have HKO := hide (isOver_any _ h c (limit + 2) limit wr.drew (hR.hp.up (up_drew _)) (by omega) (by omega) (by omega))
      clear hR
      go_wp2
      go_region_held3 (fun w' => w'.cell? ⟨w1.heap.size + 1 + 1, 0, none⟩ = some (.slice ap np pp) ∧ w'.cell? ⟨w1.heap.size + 1 + 1, 1, none⟩ = some (.int .i64 (c : Int))) (go_keep)
        ((go_at_call 92; refine HKO.out.mono ?_; rintro e w4 ⟨rfl, u4⟩; have U4 : Up wr w4 := (up_drew wr).tr u4; obtain ⟨c40, c41, _, _, _⟩ := cells2 (U4.blk HR.out.bp); have HU4 := hide U4; clear u4 U4))
      go_wp2
      go_ret2
      refine ⟨_, _, rfl, fun hb => HR.out.pp.over (Nat.le_refl _) (.inr rfl) (by simpa using hb), fun b hb => ?_, HR.out.U.tr HU4.out⟩
      obtain ⟨e1, e2⟩ := HR.out.pp.eq b
      have h2 : ¬ limit < 32 * c + bitLen h := by simpa using hb
      rw [e1, e2] at h2
      obtain ⟨u, k, q, e3, s, kc, hv, _⟩ := HR.out.hp
      cases e3
      exact ⟨by omega, _, q, s.up HU4.out, kc, by rw [hv, e2]⟩
    · obtain ⟨i, hi⟩ : ∃ i, j = i + 1 := ⟨j - 1, by omega⟩
      subst hi
      rw [show (((i + 1 : Nat) : Int) - 1) = (i : Int) by omega]
      have hiI : (0 : Int) ≤ (i : Int) := by omega
      obtain ⟨p0, p1, z0, z1, _⟩ := cells2 hR.bp
      obtain ⟨m, hm⟩ : ∃ m, m = n / 2 ^ (i + 1) := ⟨_, rfl⟩
      rw [← hm] at hR
      obtain ⟨y, hy⟩ : ∃ y, y = n / 2 ^ i := ⟨_, rfl⟩
      have hyI : (n : Int) / 2 ^ i = (y : Int) := by rw [hy, Int.natCast_ediv, Int.natCast_pow]; rfl
      have hmy : m = y / 2 := by rw [hm, hy, Nat.div_div_eq_div_mul, Nat.pow_succ]
      have hypos0 : 0 < n / 2 ^ i := by
        have hn0 : 0 < n := by
          rcases Nat.eq_zero_or_pos n with e | e
          · have := HL.out; rw [e, bitLen_zero] at this; omega
          · exact e
        have h1 := (bitLen_top hn0).1
        rw [← HL.out] at h1
        exact Nat.div_pos (Nat.le_trans (Nat.pow_le_pow_right (by decide) (by omega)) h1) (Nat.two_pow_pos i)
      have hand := i64_and1 (y : Int)
      have KT := headTimes_any _ _ h c (limit + 2) h c (limit + 2) kp wr hR.hp hR.hp hk1 hk2 (by omega) (by omega) (by omega)
      have HKT := hide KT
      have HR := hide hR
      have HY := hide hy
      have HYP := hide hypos0
      have HMY := hide hmy
      clear KT hR hm hy hypos0 hmy
      by_cases hbit : y % 2 = 1
      · have hyb : (y : Int) % 2 = 1 := by omega
        have HYB := hide hbit
        clear hbit
        go_wp2_with (first
          | (go_at_call 91; have mk : Nat := d2; refine (headTimes_any _ _ _ d2 (limit + 2 + (limit + 2)) _ x nb kp _ HR2.out.hp HR2.out.hf hk1 hk2 (by omega) (by have := HD2.out; omega) (by have := HR2.out.xl; omega)).mono ?_; clear mk; rintro e w3 ⟨v3, x3, rfl, T3⟩; obtain ⟨d3, hd3⟩ : ∃ d3, d3 = d2 + x + x3 := ⟨_, rfl⟩; have P3 := HR2.out.pp.times HR2.out.pf T3.pos (fun b => T3.whole (by have := HB.out b; omega)) T3.small; have H3 := T3.hd; rw [← hd3] at H3 P3; obtain ⟨a3, n3, q3, hv3⟩ := H3.form; subst hv3; have R3 := HR2.out.store T3.U H3 P3; obtain ⟨s0, s1, e0, e1, _⟩ := cells2 (T3.U.blk HR2.out.bp); have HR3 := hide R3; have HD3 : Hid (d3 ≤ 100000000) := hide (by have := T3.le; have := HD2.out; have := HR2.out.xl; omega); clear R3 H3 P3 T3 hd3)
          | (go_at_call 91; refine HKT.out.mono ?_; rintro e w2 ⟨v2, x2, rfl, T2⟩; obtain ⟨d2, hd2⟩ : ∃ d2, d2 = c + c + x2 := ⟨_, rfl⟩; have P2 := HR.out.pp.times HR.out.pp T2.pos (fun b => T2.whole (by have := HB.out b; omega)) T2.small; have H2 := T2.hd; rw [← hd2] at H2 P2; obtain ⟨a2, n2, q2, hv2⟩ := H2.form; subst hv2; have R2 := HR.out.store T2.U H2 P2; obtain ⟨y0, y1, f0, f1, _⟩ := cells2 (T2.U.blk HR.out.bp); obtain ⟨g0, g1, _, _, _⟩ := cells2 R2.bf; have HR2 := hide R2; have HD2 : Hid (d2 ≤ 10 * limit + 100) := hide (by have := T2.le; omega); clear R2 H2 P2 T2 hd2)
          | (go_at_call 92; refine (isOver_any _ _ d3 (limit + 2 + (limit + 2) + nb) limit _ HR3.out.hp (by omega) (by have := HD3.out; omega) (by omega)).mono ?_; rintro e w4 ⟨he, u4⟩; generalize hob : decide (limit < _) = ob at he; subst he; have HOB := hide hob; have HU4 := hide u4; clear hob u4))
        all_goals
          have hyE : m + m + 1 = n / 2 ^ i := by have := HMY.out; have := HYB.out; have := HY.out; omega
          have hypos := HYP.out
        · rename_i hob1
          go_ret2
          have h1 := HOB.out
          rw [hob1] at h1
          have h2 := of_decide_eq_true h1
          exact ⟨_, false, rfl, fun _ => HR3.out.pp.over (by rw [hyE]; exact Nat.div_le_self _ _) (.inl (by rw [hyE]; exact hypos)) h2, (fun _ h => by cases h), HR3.out.U.tr HU4.out⟩
        · rename_i hob1
          have h1 := HOB.out
          rw [hob1] at h1
          have h2 := of_decide_eq_false h1
          have R9 := HR3.out.tight (L := limit + 2) (by omega) HU4.out
          rw [hyE] at R9
          exact ⟨⟨i, _, _, _, _, _, by omega, by go_num, R9, by omega, by omega⟩, by simp [intOf]⟩
      · have hyb : (y : Int) % 2 = 0 := by omega
        have HYB := hide hbit
        clear hbit
        go_wp2_with (first
          | (go_at_call 91; refine HKT.out.mono ?_; rintro e w2 ⟨v2, x2, rfl, T2⟩; obtain ⟨d2, hd2⟩ : ∃ d2, d2 = c + c + x2 := ⟨_, rfl⟩; have P2 := HR.out.pp.times HR.out.pp T2.pos (fun b => T2.whole (by have := HB.out b; omega)) T2.small; have H2 := T2.hd; rw [← hd2] at H2 P2; obtain ⟨a2, n2, q2, hv2⟩ := H2.form; subst hv2; have R2 := HR.out.store T2.U H2 P2; obtain ⟨y0, y1, f0, f1, _⟩ := cells2 (T2.U.blk HR.out.bp); obtain ⟨g0, g1, _, _, _⟩ := cells2 R2.bf; have HR2 := hide R2; have HD2 : Hid (d2 ≤ 10 * limit + 100) := hide (by have := T2.le; omega); clear R2 H2 P2 T2 hd2)
          | (go_at_call 92; refine (isOver_any _ _ d2 (limit + 2 + (limit + 2)) limit _ HR2.out.hp (by omega) (by have := HD2.out; omega) (by omega)).mono ?_; rintro e w4 ⟨he, u4⟩; generalize hob : decide (limit < _) = ob at he; subst he; have HOB := hide hob; have HU4 := hide u4; clear hob u4))
        all_goals
          have hyE : m + m = n / 2 ^ i := by have := HMY.out; have := HYB.out; have := HY.out; omega
          have hypos := HYP.out
        · rename_i hob1
          go_ret2
          have h1 := HOB.out
          rw [hob1] at h1
          have h2 := of_decide_eq_true h1
          exact ⟨_, false, rfl, fun _ => HR2.out.pp.over (by rw [hyE]; exact Nat.div_le_self _ _) (.inl (by rw [hyE]; exact hypos)) h2, (fun _ h => by cases h), HR2.out.U.tr HU4.out⟩
        · rename_i hob1
          have h1 := HOB.out
          rw [hob1] at h1
          have h2 := of_decide_eq_false h1
          have R9 := HR2.out.tight (L := limit + 2) (by omega) HU4.out
          rw [hyE] at R9
          exact ⟨⟨i, _, _, _, _, _, by omega, by go_num, R9, by omega, by omega⟩, by simp [intOf]⟩

theorem sgn_pow (b : Bool) (x n : Nat) : (sgn b x) ^ n = sgn (b && decide (n % 2 = 1)) (x ^ n) := by
  induction n with
  | zero => cases b <;> simp [sgn]
  | succ n ih =>
    rw [Int.pow_succ, ih]
    rcases Nat.mod_two_eq_zero_or_one n with e | e
    · have e2 : (n + 1) % 2 = 1 := by omega
      cases b
      · simp [sgn, Nat.pow_succ]
      · simp [sgn, e, e2, Nat.pow_succ, Int.mul_neg]
    · have e2 : (n + 1) % 2 = 0 := by omega
      cases b
      · simp [sgn, Nat.pow_succ]
      · simp [sgn, e, e2, Nat.pow_succ, Int.neg_mul_neg]

/-- What Power answers. -/
def PowEnd (Z : Int) (n limit : Nat) (w : World) (e : Ending) (w' : World) : Prop := ∃ b ao k cap, e = .returned (.tuple #[.agg #[.bool b, .slice ao k cap], .bool (decide (bitLen (Z.natAbs ^ n) ≤ limit))]) ∧ (bitLen (Z.natAbs ^ n) ≤ limit → RdC (Z ^ n) 1000000000 w' (.agg #[.bool b, .slice ao k cap])) ∧ (limit < bitLen (Z.natAbs ^ n) → b = false ∧ ao = none ∧ k = 0 ∧ cap = 0) ∧ Up w w'

theorem sgn_natAbs (b : Bool) (x : Nat) : (sgn b x).natAbs = x := by cases b <;> simp [sgn]
theorem can_most {f : Nat → Nat} {n L : Nat} (hc : Can 4294967296 f n) (h : bitLen (num 4294967296 f n) ≤ L) : n ≤ L := by
  rcases Nat.eq_zero_or_pos n with e0 | e0
  · omega
  · have ht : f (n - 1) ≠ 0 := by rcases hc.2 with e1 | e1; omega; exact e1
    have := bitLen_num hc.1 e0 ht
    have h2 : 0 < bitLen (f (n - 1)) := by unfold bitLen; rw [if_neg ht]; omega
    omega

/-- A list of limbs does not lie in a number's own block. -/
theorem sl_otherN {w1 wf : World} {g : Nat} {b0 : Bool} {a : Option Addr} {m c : Nat} {E : TypeId} {u : Value} {n : Nat} {f : Nat → Nat} (hb : w1.heap[g]? = some (.cells #[.bool b0, .slice a m c] E (0, 0))) (hs : Sl .u32 w1 u n f) (hf : ∀ k, k ≠ g → wf.heap[k]? = w1.heap[k]?) : Sl .u32 wf u n f := by
  obtain ⟨ao, cap, rfl, h1, h2, h0, h3⟩ := hs
  refine ⟨ao, cap, rfl, h1, h2, h0, ?_⟩
  rcases h3 with e | ⟨b, off, rfl, hc⟩
  · exact .inl e
  · refine .inr ⟨b, off, rfl, fun i hi => ?_⟩
    have hci := hc i hi
    by_cases e : b = g
    · exfalso
      subst e
      simp only [World.cell?, hb] at hci
      match ho : off + i with
      | 0 => rw [ho] at hci; simp at hci
      | 1 => rw [ho] at hci; simp at hci
      | j + 2 => rw [ho] at hci; simp at hci
    · exact (World.cell?_of_block (w := w1) (hf b e)).trans hci
theorem pow_yes {Z : Int} {n limit X m1 m4 m5 : Nat} {f q4 : Nat → Nat} {b1 b5 sg : Bool} {w wf : World} {ao5 : Option Addr} {cap5 : Nat} (hA : Z.natAbs = X) (hX : X = num 4294967296 f m1) (hZ : sgn b1 (num 4294967296 f m1) = Z) (hfit : bitLen (X ^ n) ≤ limit) (hl : limit ≤ 1000000) (c4 : Can 4294967296 q4 m4) (v4 : num 4294967296 q4 m4 = X ^ n) (l5 : m5 ≤ m4) (C5 : CanZ b5 q4 m5) (s5 : sgn b5 (num 4294967296 q4 m5) = sgn sg (num 4294967296 q4 m4)) (hsg : sg = (b1 && decide (n % 2 = 1))) (sv : Sl .u32 wf (.slice ao5 m5 cap5) m5 q4) (U : Up w wf) :
    PowEnd Z n limit w (.returned (.tuple #[.agg #[.bool b5, .slice ao5 m5 cap5], .bool true])) wf := by
  refine ⟨b5, ao5, m5, cap5, by rw [decide_eq_true (by rw [hA]; exact hfit)], fun _ => ⟨b5, m5, q4, ⟨_, rfl, sv⟩, C5, ?_, ?_⟩, fun h => ?_, U⟩
  · have := can_most c4 (by rw [v4]; exact hfit)
    omega
  · rw [s5, v4, hsg, hX, ← sgn_pow, hZ]
  · rw [hA] at h; omega
theorem pow_no {Z : Int} {n limit X : Nat} {w wf : World} (hA : Z.natAbs = X) (hfit : ¬ bitLen (X ^ n) ≤ limit) (U : Up w wf) : PowEnd Z n limit w (.returned (.tuple #[.agg #[.bool false, .slice none 0 0], .bool false])) wf :=
  ⟨false, none, 0, 0, by rw [decide_eq_false (by rw [hA]; exact hfit)], fun h => by rw [hA] at h; exact absurd h hfit, fun _ => ⟨rfl, rfl, rfl, rfl⟩, U⟩

set_option maxRecDepth 20000 in
set_option maxHeartbeats 4000000 in
theorem power_any (a : Value) (Z : Int) (M n limit : Nat) (w : World) (ha : RdD Z M w a) (hM : M ≤ 2000000) (hn : n < 9223372036854775808) (hl : limit ≤ 1000000) :
    Calls Tryd.prog 40 #[a, .int .i64 (n : Int), .int .i64 (limit : Int)] w fun e w' => PowEnd Z n limit w e w' := by
  obtain ⟨b, m, f, hm, hd, hM2, hZ⟩ := ha
  obtain ⟨v, rfl, hv⟩ := hm
  obtain ⟨ao, cap, rfl, -⟩ := id hv
  have hn0 : ¬ (n : Int) < 0 := by omega
  have hl0 : ¬ (limit : Int) < 0 := by omega
  have KW := fun w1 (u : Up w w1) => work_any (.agg #[.bool b, .slice ao m cap]) b m f w1 ⟨_, rfl, hv.up u⟩ hd
  have HKW := hide KW
  have HV := hide hv
  have HD := hide hd
  have HZ := hide hZ
  clear KW hv hd hZ
  have hodd : ((n : Int) % 2 == 1) = decide (n % 2 = 1) := by
    rcases Nat.mod_two_eq_zero_or_one n with e | e
    · rw [show (n : Int) % 2 = 0 by omega, decide_eq_false (by omega)]; rfl
    · rw [show (n : Int) % 2 = 1 by omega, decide_eq_true e]; rfl
  go_enter Tryd.func40, Tryd.ntmps40
  go_wp2_with (go_at_call 56; refine (HKW.out _ ((up_alloc _ _).tr (up_alloc _ _))).mono ?_; rintro e w1 ⟨a1, b1, m1, rfl, hW1, U1, C1, l1, s1⟩; obtain ⟨v1, hv1, sv1⟩ := hW1 w ⟨_, rfl, HV.out⟩; subst hv1; obtain ⟨ao1, cap1, hv1, -⟩ := id sv1; subst hv1; have HU1 : Hid (Up w w1) := hide (((up_alloc _ _).tr (up_alloc _ _)).tr U1); have HR1 := hide (U1.blk (two_blocks w _ _).2); have HC1 := hide C1; have HSV := hide sv1; have HS1 := hide s1; clear hW1 U1 C1 sv1 s1)
  have hA : Z.natAbs = num 4294967296 f m1 := by rw [← HZ.out, ← HS1.out, sgn_natAbs]
  obtain ⟨X, hX⟩ : ∃ X, X = num 4294967296 f m1 := ⟨_, rfl⟩
  rw [← hX] at hA
  have K1 := fun W (u : Up w W) => raise_any (.slice ao1 m1 cap1) m1 f X n limit 8 False W (HSV.out.up u) HC1.out.1 hX.symm (by omega) hn hl (by decide) (by decide) (fun h => h.elim)
  have K2 := fun W (u : Up w W) => raise_any (.slice ao1 m1 cap1) m1 f X n limit 9223372036854775807 True W (HSV.out.up u) HC1.out.1 hX.symm (by omega) hn hl (by decide) (by decide) (fun _ => by decide)
  have HK1 := hide K1
  have HK2 := hide K2
  have HA := hide hA
  have HX := hide hX
  have HB1 := hide (heap_alloc_new w1 (.cells #[.slice ao1 m1 cap1, .bool b1] 51))
  have HUa : Hid (Up w (w1.alloc (.cells #[.slice ao1 m1 cap1, .bool b1] 51))) := hide (HU1.out.tr (up_alloc _ _))
  have HUb : Hid (Up w1 (w1.alloc (.cells #[.slice ao1 m1 cap1, .bool b1] 51))) := hide (up_alloc _ _)
  clear K1 K2 hA hX
  generalize w1.alloc (.cells #[.slice ao1 m1 cap1, .bool b1] 51) = W2 at *
  obtain ⟨x80, x81, _, _, _⟩ := cells2 HB1.out
  by_cases hfit : bitLen (X ^ n) ≤ limit
  · rcases b1 with _ | _
    all_goals
      go_wp2_with (first
        | (go_at_call_of 67 (Value.int .i64 8); refine (HK1.out _ HUa.out).mono ?_; rintro e w3 ⟨u3, b3, rfl, h3, _, U3⟩; have hb3 : b3 = true := (by cases b3; exact absurd (h3 rfl) (by omega); rfl); subst hb3; obtain ⟨x90, x91, _, _, _⟩ := cells2 (U3.blk HB1.out); have HU3 := hide U3; clear h3 U3)
        | (go_at_call 67; refine (HK2.out _ (HUa.out.tr HU3.out)).mono ?_; rintro e w4 ⟨u4, b4, rfl, h4, k4, U4⟩; have hb4 : b4 = true := (by cases b4; exact absurd (h4 rfl) (by omega); rfl); subst hb4; obtain ⟨_, m4, q4, s4, c4, v4⟩ := k4 trivial rfl; obtain ⟨ao4, cap4, hu4, -⟩ := id s4; subst hu4; have HU4 : Hid (Up W2 w4) := hide (HU3.out.tr U4); obtain ⟨x100, x101, _, _, _⟩ := cells2 (HU4.out.blk HB1.out); have HS4 := hide s4; have HC4 := hide c4; have HV4 := hide v4; clear h4 k4 U4 s4 c4 v4)
        | (go_at_call 59; refine (numberOf_sl _ m4 q4 _ w4 HS4.out HC4.out.1).mono ?_; rintro e w5 ⟨a5, b5, m5, rfl, W5, U5, C5, l5, s5⟩; obtain ⟨v5, hv5, sv5⟩ := W5; subst hv5; obtain ⟨ao5, cap5, hv5, -⟩ := id sv5; subst hv5; have HU5 := hide U5; have HC5 := hide C5; have HS5 := hide s5; have HSV5 := hide sv5; clear U5 C5 s5 sv5)
        | (go_at_call 50; refine (answer_any _ b5 m5 q4 w5 ⟨_, rfl, HSV5.out.up HU5.out⟩).mono ?_; rintro e w6 ⟨a6, rfl, h6, U6⟩; have hh6 := h6 _ rfl; subst hh6; have HU6 : Hid (Up W2 w6) := hide ((HU4.out.tr HU5.out).tr U6); have HU6b : Hid (Up w4 w6) := hide (HU5.out.tr U6); obtain ⟨r0, r1, f0, f1, _⟩ := cells2 (HU6.out.blk (HUb.out.blk HR1.out)); clear h6 U6))
      have bb := HU6.out.blk (HUb.out.blk HR1.out)
      obtain ⟨t6, b6⟩ := sto_two bb (.bool b5) (.slice ao5 m5 cap5)
      obtain ⟨y0, y1, _, _, _⟩ := cells2 b6
      refine bodyPost_ret (by simp [results, Tryd.results40, go_sem, y0, y1]; rfl) rfl ?_
      exact pow_yes HA.out HX.out (HS1.out.trans HZ.out) hfit hl HC4.out HV4.out l5 HC5.out HS5.out (by simp) (sl_otherN bb (HSV5.out.up HU6b.out) t6.block) (t6.up (HUa.out.tr HU6.out) (by omega))
  · go_wp2_with (first
      | (go_at_call_of 67 (Value.int .i64 8); refine (HK1.out _ HUa.out).mono ?_; rintro e w3 ⟨u3, b3, rfl, _, _, U3⟩; obtain ⟨x90, x91, _, _, _⟩ := cells2 (U3.blk HB1.out); obtain ⟨r0, r1, f0, f1, _⟩ := cells2 (U3.blk (HUb.out.blk HR1.out)); have HU3 := hide U3; clear U3)
      | (go_at_call 67; refine (HK2.out _ (HUa.out.tr HU3.out)).mono ?_; rintro e w4 ⟨u4, b4, rfl, _, k4, U4⟩; have hb4 : b4 = false := (by cases b4; rfl; exact absurd (k4 trivial rfl).1 hfit); subst hb4; have HU4 : Hid (Up W2 w4) := hide (HU3.out.tr U4); obtain ⟨r40, r41, f40, f41, _⟩ := cells2 (HU4.out.blk (HUb.out.blk HR1.out)); clear k4 U4))
    · have bb := HU3.out.blk (HUb.out.blk HR1.out)
      obtain ⟨t6, b6⟩ := sto_two bb (.bool false) (.slice none 0 0)
      obtain ⟨y0, y1, _, _, _⟩ := cells2 b6
      refine bodyPost_ret (by simp [results, Tryd.results40, go_sem, y0, y1]; rfl) rfl ?_
      exact pow_no HA.out hfit (t6.up (HUa.out.tr HU3.out) (by omega))
    · have bb := HU4.out.blk (HUb.out.blk HR1.out)
      obtain ⟨t6, b6⟩ := sto_two bb (.bool false) (.slice none 0 0)
      obtain ⟨y0, y1, _, _, _⟩ := cells2 b6
      refine bodyPost_ret (by simp [results, Tryd.results40, go_sem, y0, y1]; rfl) rfl ?_
      exact pow_no HA.out hfit (t6.up (HUa.out.tr HU4.out) (by omega))

end Go.Proofs.YtjbocfhmfidjjaaDoor
