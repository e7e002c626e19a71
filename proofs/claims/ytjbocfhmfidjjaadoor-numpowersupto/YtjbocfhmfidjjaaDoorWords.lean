/-
  What is proved here: what math/bits.Add32, Sub32, Mul32, Div32 answer, as plain sums, differences, products and quotients.
-/
import Derived.Test.YtjbocfhmfidjjaaDoorProg
import Derived.Test.YtjbocfhmfidjjaaDoorBase
import Derived.WalkLawsBesides
import Derived.Laws.BitsAllLaws
namespace Go.Proofs.YtjbocfhmfidjjaaDoor
open Go Go.RowKit

theorem ret2 {k l : IntKind} {a b c d : Int} (h : a = b) (h' : c = d) : Ending.returned (.tuple #[.int k a, .int l c]) = .returned (.tuple #[.int k b, .int l d]) := by rw [h, h']

set_option maxHeartbeats 400000 in
theorem add32_any (x y c : Nat) (w : World) (hx : x < 4294967296) (hy : y < 4294967296) (hc : c ≤ 1) :
    Calls Tryd.prog 111 #[.int .u32 x, .int .u32 y, .int .u32 c] w fun e w' => e = .returned (.tuple #[.int .u32 ((x + y + c) % 4294967296 : Nat), .int .u32 ((x + y + c) / 4294967296 : Nat)]) ∧ w' = w := by
  go_enter Tryd.func111, Tryd.ntmps111
  go_wp2
  go_ret2
  refine ⟨ret2 ?_ ?_, rfl⟩
  · omega
  · omega

/-- What is borrowed where y and c are taken from x. -/
def bor (x y c : Nat) : Nat := if x < y + c then 1 else 0
theorem bor_le (x y c : Nat) : bor x y c ≤ 1 := by unfold bor; split <;> omega
theorem bor_eq (x y c : Nat) (hx : x < 4294967296) (hy : y < 4294967296) (hc : c ≤ 1) : (x + 4294967296 - y - c) % 4294967296 + y + c = x + 4294967296 * bor x y c := by
  unfold bor
  split <;> omega

theorem top_bit (x : Nat) (hx : x < 4294967296) : x.testBit 31 = decide (2147483648 ≤ x) := by
  rw [Nat.testBit_eq_decide_div_mod_eq]
  apply decide_eq_decide.2
  omega
theorem half_bit (z : Nat) (hz : z < 4294967296) : z / 2147483648 = (z.testBit 31).toNat := by
  rw [top_bit z hz]
  by_cases h : 2147483648 ≤ z <;> simp [h] <;> omega
theorem sub_nat (x y c d : Nat) (hx : x < 4294967296) (hy : y < 4294967296) (hc : c ≤ 1) (hd : d = (x + 4294967296 - y - c) % 4294967296) :
    (((4294967295 ^^^ x) &&& y) ||| ((4294967295 ^^^ (x ^^^ y)) &&& d)) / 2147483648 = bor x y c := by
  have hdl : d < 4294967296 := by omega
  have ha : ((4294967295 ^^^ x) &&& y) < 2 ^ 32 := Nat.and_lt_two_pow _ (by omega)
  have hb : ((4294967295 ^^^ (x ^^^ y)) &&& d) < 2 ^ 32 := Nat.and_lt_two_pow _ (by omega)
  rw [half_bit _ (Nat.or_lt_two_pow ha hb)]
  rw [Nat.testBit_or, Nat.testBit_and, Nat.testBit_and, Nat.testBit_xor, Nat.testBit_xor, Nat.testBit_xor, top_bit x hx, top_bit y hy, top_bit d hdl]
  have e : (4294967295 : Nat).testBit 31 = true := by decide
  rw [e]
  unfold bor
  by_cases h1 : 2147483648 ≤ x <;> by_cases h2 : 2147483648 ≤ y <;> by_cases h3 : 2147483648 ≤ d <;> by_cases h4 : x < y + c <;> simp [h1, h2, h3, h4] <;> omega
theorem sub_bits (x y c : Nat) (hx : x < 4294967296) (hy : y < 4294967296) (hc : c ≤ 1) :
    bits BinOp.or IntKind.u32 (bits BinOp.and IntKind.u32 (bits BinOp.xor IntKind.u32 IntKind.u32.max ↑x) ↑y) (bits BinOp.and IntKind.u32 (bits BinOp.xor IntKind.u32 IntKind.u32.max (bits BinOp.xor IntKind.u32 ↑x ↑y)) (((x : Int) - (y : Int) - (c : Int)) % 4294967296)) / 2147483648 = (bor x y c : Int) := by
  have em : IntKind.u32.max = ((4294967295 : Nat) : Int) := by simp [IntKind.max, IntKind.signed, IntKind.bits]
  have ed : ((x : Int) - (y : Int) - (c : Int)) % 4294967296 = (((x + 4294967296 - y - c) % 4294967296 : Nat) : Int) := by omega
  have hq : (x + 4294967296 - y - c) % 4294967296 < 4294967296 := by omega
  have hn := sub_nat x y c _ hx hy hc rfl
  rw [ed]
  generalize (x + 4294967296 - y - c) % 4294967296 = d at *
  have hxx : (x ^^^ y) < 4294967296 := Nat.xor_lt_two_pow (n := 32) hx hy
  have h1 : (4294967295 ^^^ x) < 4294967296 := Nat.xor_lt_two_pow (n := 32) (by decide) hx
  have h2 : (4294967295 ^^^ (x ^^^ y)) < 4294967296 := Nat.xor_lt_two_pow (n := 32) (by decide) hxx
  have h3 : ((4294967295 ^^^ x) &&& y) < 4294967296 := Nat.and_lt_two_pow (n := 32) _ hy
  have h4 : ((4294967295 ^^^ (x ^^^ y)) &&& d) < 4294967296 := Nat.and_lt_two_pow (n := 32) _ hq
  rw [em, u32_xor_nat _ _ (by decide) hx, u32_xor_nat _ _ hx hy, u32_xor_nat _ _ (by decide) hxx, u32_and_nat _ _ h1 hy, u32_and_nat _ _ h2 hq, u32_or_nat _ _ h3 h4, ← hn]
  rfl

set_option maxHeartbeats 400000 in
theorem sub32_any (x y c : Nat) (w : World) (hx : x < 4294967296) (hy : y < 4294967296) (hc : c ≤ 1) :
    Calls Tryd.prog 127 #[.int .u32 x, .int .u32 y, .int .u32 c] w fun e w' => e = .returned (.tuple #[.int .u32 ((x + 4294967296 - y - c) % 4294967296 : Nat), .int .u32 (bor x y c)]) ∧ w' = w := by
  go_enter Tryd.func127, Tryd.ntmps127
  go_wp2
  go_ret2
  refine ⟨ret2 ?_ ?_, rfl⟩
  · omega
  · exact sub_bits x y c hx hy hc

theorem prod_lt {x y a b : Nat} (hx : x < a) (hy : y < b) : x * y ≤ (a - 1) * (b - 1) := Nat.mul_le_mul (by omega) (by omega)

set_option maxHeartbeats 400000 in
theorem mul32_any (x y : Nat) (w : World) (hx : x < 4294967296) (hy : y < 4294967296) :
    Calls Tryd.prog 110 #[.int .u32 x, .int .u32 y] w fun e w' => e = .returned (.tuple #[.int .u32 ((x * y) / 4294967296 : Nat), .int .u32 ((x * y) % 4294967296 : Nat)]) ∧ w' = w := by
  go_enter Tryd.func110, Tryd.ntmps110
  go_wp2
  go_ret2
  have hp := prod_lt hx hy
  have e : IntKind.u64.wrap (↑x * ↑y) = ((x * y : Nat) : Int) := by
    rw [← Int.natCast_mul]
    generalize x * y = z at *
    simp only [IntKind.wrap, IntKind.bits, IntKind.signed]
    simp
    omega
  refine ⟨ret2 ?_ ?_, rfl⟩
  · rw [e]
    generalize x * y = z at *
    omega
  · rw [e]
    generalize x * y = z at *
    omega

theorem head_or (h l : Nat) (hh : h < 4294967296) (hl : l < 4294967296) : bits BinOp.or IntKind.u64 ((h : Int) * 4294967296) (l : Int) = ((h * 4294967296 + l : Nat) : Int) := by
  have e : (h : Int) * 4294967296 = ((h * 4294967296 : Nat) : Int) := by simp
  rw [e, u64_or_nat _ _ (by omega) (by omega), nat_join 32 _ _ (by omega) (by omega)]

set_option maxHeartbeats 400000 in
theorem div32_any (h l d : Nat) (w : World) (hh : h < d) (hl : l < 4294967296) (hd : d < 4294967296) :
    Calls Tryd.prog 118 #[.int .u32 h, .int .u32 l, .int .u32 d] w fun e w' => e = .returned (.tuple #[.int .u32 ((h * 4294967296 + l) / d : Nat), .int .u32 ((h * 4294967296 + l) % d : Nat)]) ∧ w' = w.drew := by
  have e1 : ((d : Int) != 0) = true := by rw [bne_iff_ne]; omega
  have e2 : (0 : Int) < d := by omega
  have e3 : decide (d ≤ h) = false := by simp; omega
  have e4 := head_or h l (by omega) hl
  have hq : (h * 4294967296 + l) / d < 4294967296 := by
    rw [Nat.div_lt_iff_lt_mul (by omega)]
    have : (h + 1) * 4294967296 ≤ d * 4294967296 := Nat.mul_le_mul_right _ hh
    omega
  have hr : (h * 4294967296 + l) % d < d := Nat.mod_lt _ (by omega)
  have hz : h * 4294967296 + l < 18446744073709551616 := by omega
  go_enter Tryd.func118, Tryd.ntmps118
  go_wp2
  clear e4
  go_region
  all_goals go_wp2
  all_goals go_ret2
  all_goals refine ⟨ret2 ?_ ?_, rfl⟩
  all_goals rw [show ((h : Int) * 4294967296 + (l : Int)) = ((h * 4294967296 + l : Nat) : Int) from by simp]
  · rw [← Int.natCast_ediv]
    generalize (h * 4294967296 + l) / d = z at *
    omega
  · rw [← Int.natCast_emod]
    generalize (h * 4294967296 + l) % d = z at *
    omega

end Go.Proofs.YtjbocfhmfidjjaaDoor
