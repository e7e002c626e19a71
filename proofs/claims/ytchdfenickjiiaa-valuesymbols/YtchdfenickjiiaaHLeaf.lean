/-
  What is proved here: the heap's headers, pointers and bounds, and where the half in use lies, as they are reckoned.
-/
import Derived.Test.YtchdfenickjiiaaHBase
import Derived.Test.YtchdfenickjiiaaProg
import Derived.Laws.BitsAllLaws
import Derived.Deep.QuietTactic
import Derived.BigQuiet
namespace Go.Proofs.Ytchdfenickjiiaa
open Go Go.RowKit

theorem retI {k : IntKind} {a b : Int} (h : a = b) : Ending.returned (.int k a) = .returned (.int k b) := by rw [h]

theorem wrap64_id {x : Int} (h1 : -9223372036854775808 ≤ x) (h2 : x ≤ 9223372036854775807) : wrap64 x = x := by unfold wrap64; omega
theorem mask_of (x : Nat) (k : Nat) (hx : x < 18446744073709551616) (hk : k ≤ 63) : bits BinOp.and IntKind.u64 (x : Int) ((2 ^ k - 1 : Nat) : Int) = ((x % 2 ^ k : Nat) : Int) := by
  have h1 : 2 ^ k ≤ 2 ^ 63 := Nat.pow_le_pow_right (by decide) hk
  rw [u64_and_nat _ _ hx (by omega), Nat.and_two_pow_sub_one_eq_mod]
theorem and_24 (x : Nat) (hx : x < 18446744073709551616) : bits BinOp.and IntKind.u64 (x : Int) 16777215 = ((x % 16777216 : Nat) : Int) := mask_of x 24 hx (by decide)
theorem and_6 (x : Nat) (hx : x < 18446744073709551616) : bits BinOp.and IntKind.u64 (x : Int) 63 = ((x % 64 : Nat) : Int) := mask_of x 6 hx (by decide)
theorem and_2 (x : Nat) (hx : x < 18446744073709551616) : bits BinOp.and IntKind.u64 (x : Int) 3 = ((x % 4 : Nat) : Int) := mask_of x 2 hx (by decide)
theorem and_1 (x : Nat) (hx : x < 18446744073709551616) : bits BinOp.and IntKind.u64 (x : Int) 1 = ((x % 2 : Nat) : Int) := mask_of x 1 hx (by decide)

theorem place_num (v : Int) (n : Nat) (hn : 1 ≤ n) : (v.tmod n < 0 → v.tmod n + n = ((v % (n : Int)).toNat : Int)) ∧ (0 ≤ v.tmod n → v.tmod n = ((v % (n : Int)).toNat : Int)) ∧ - (n : Int) < v.tmod n := by
  have hm1 : 0 ≤ v % (n : Int) := Int.emod_nonneg _ (by omega)
  have hm2 : v % (n : Int) < n := Int.emod_lt_of_pos _ (by omega)
  have e := @Int.tmod_eq_emod v n
  by_cases hv : 0 ≤ v ∨ (n : Int) ∣ v
  · rw [if_pos hv] at e
    simp only [Int.natCast_zero, Int.sub_zero] at e
    refine ⟨fun h => by omega, fun _ => by omega, by omega⟩
  · rw [if_neg hv, Int.natAbs_natCast] at e
    have : v % (n : Int) ≠ 0 := fun h => hv (.inr (Int.dvd_of_emod_eq_zero h))
    refine ⟨fun h => by omega, fun _ => by omega, by omega⟩

set_option maxRecDepth 20000 in
theorem place_any (v : Int) (n : Nat) (w : World) (h1 : 1 ≤ n) (h2 : n ≤ 4611686018427387903) (_hv1 : -9223372036854775808 ≤ v) (_hv2 : v ≤ 9223372036854775807) :
    Calls Try.prog 29 #[.int .i64 v, .int .i64 (n : Int)] w fun e w' => e = .returned (.int .i64 ((v % (n : Int)).toNat : Int)) ∧ w' = w := by
  have e1 : ((n : Int) != 0) = true := by rw [bne_iff_ne]; omega
  obtain ⟨p1, p2, p3⟩ := place_num v n h1
  have P1 := hide p1
  have P2 := hide p2
  clear p1 p2
  go_enter Try.func29, Try.ntmps29
  go_wp2
  · go_ret
    exact ⟨retI (P1.out ‹_›), rfl⟩
  · go_ret
    exact ⟨retI (P2.out ‹_›), rfl⟩

/-- May it be a count of fields? -/
def cntB (n : Int) : Bool := decide (0 ≤ n ∧ n ≤ 1048576)
theorem cntB_yes {n : Int} (h1 : 0 ≤ n) (h2 : n ≤ 1048576) : cntB n = true := by unfold cntB; exact decide_eq_true ⟨h1, h2⟩
theorem cntB_no {n : Int} (h : n < 0 ∨ 1048576 < n) : cntB n = false := by unfold cntB; exact decide_eq_false (by omega)
set_option maxRecDepth 20000 in
theorem isCount_any (n : Int) (w : World) :
    Calls Try.prog 87 #[.int .i64 n] w fun e w' => e = .returned (.bool (cntB n)) ∧ w' = w := by
  by_cases h1 : 0 ≤ n
  · by_cases h2 : n ≤ 1048576
    · rw [cntB_yes h1 h2]
      go_enter Try.func87, Try.ntmps87
      go_wp2
      go_ret
      simp 
    · rw [cntB_no (by omega)]
      go_enter Try.func87, Try.ntmps87
      go_wp2
      go_ret
      simp 
  · rw [cntB_no (by omega)]
    go_enter Try.func87, Try.ntmps87
    go_wp2
    go_ret
    exact ⟨rfl, rfl⟩

set_option maxRecDepth 20000 in
theorem pointerTo_any (n : Nat) (w : World) (h : n ≤ 1048576) :
    Calls Try.prog 136 #[.int .i64 (n : Int)] w fun e w' => e = .returned (.int .u64 ((4 * n : Nat) : Int)) ∧ w' = w := by
  go_enter Try.func136, Try.ntmps136
  go_wp2
  go_ret
  exact ⟨retI (by omega), rfl⟩

set_option maxRecDepth 20000 in
theorem tagged_any (x : Nat) (w : World) (h : x < 18446744073709551616) :
    Calls Try.prog 76 #[.int .u64 (x : Int)] w fun e w' => e = .returned (.int .i64 (hTag x : Int)) ∧ w' = w := by
  go_enter Try.func76, Try.ntmps76
  go_wp2
  go_ret
  refine ⟨retI ?_, rfl⟩
  rw [show (x : Int) / 256 = ((x / 256 : Nat) : Int) by omega, and_24 _ (by omega), wrap64_id (by omega) (by omega)]
  rfl
set_option maxRecDepth 20000 in
theorem raws_any (x : Nat) (w : World) (h : x < 18446744073709551616) :
    Calls Try.prog 107 #[.int .u64 (x : Int)] w fun e w' => e = .returned (.int .i64 (hRaw x : Int)) ∧ w' = w := by
  go_enter Try.func107, Try.ntmps107
  go_wp2
  go_ret
  refine ⟨retI ?_, rfl⟩
  rw [show (x : Int) / 4294967296 = ((x / 4294967296 : Nat) : Int) by omega, and_24 _ (by omega), wrap64_id (by omega) (by omega)]
  rfl
set_option maxRecDepth 20000 in
theorem kind_any (x : Nat) (w : World) (h : x < 18446744073709551616) :
    Calls Try.prog 123 #[.int .u64 (x : Int)] w fun e w' => e = .returned (.int .i64 (hKind x : Int)) ∧ w' = w := by
  go_enter Try.func123, Try.ntmps123
  go_wp2
  go_ret
  refine ⟨retI ?_, rfl⟩
  rw [show (x : Int) / 4 = ((x / 4 : Nat) : Int) by omega, and_6 _ (by omega), wrap64_id (by omega) (by omega)]
  rfl

set_option maxRecDepth 20000 in
theorem words_num (x : Nat) (w : World) (h : x < 18446744073709551616) :
    Calls Try.prog 89 #[.int .u64 (x : Int)] w fun e w' => e = .returned (.int .i64 (hLen x : Int)) ∧ w' = w := by
  have h1 := hTag_lt x
  have h2 := hRaw_lt x
  go_enter Try.func89, Try.ntmps89
  go_wp2_with (first | (go_at_call 76; refine (tagged_any _ _ h).mono ?_; rintro e w' ⟨rfl, rfl⟩) | (go_at_call 107; refine (raws_any _ _ h).mono ?_; rintro e w' ⟨rfl, rfl⟩))
  go_ret
  refine ⟨retI ?_, rfl⟩
  unfold hLen
  omega

set_option maxRecDepth 20000 in
theorem headerOf_any (k t r : Nat) (w : World) (hk : k ≤ 63) (ht : t ≤ 1048576) (hr : r ≤ 1048576) :
    Calls Try.prog 88 #[.int .i64 (k : Int), .int .i64 (t : Int), .int .i64 (r : Int)] w fun e w' => e = .returned (.int .u64 (hOf k t r : Int)) ∧ w' = w := by
  go_enter Try.func88, Try.ntmps88
  go_wp2
  go_ret
  refine ⟨retI ?_, rfl⟩
  have e1 : bits BinOp.or IntKind.u64 3 ((k : Int) * 4) = ((4 * k + 3 : Nat) : Int) := by
    rw [show (k : Int) * 4 = ((4 * k : Nat) : Int) by omega, show (3 : Int) = ((3 : Nat) : Int) from rfl, u64_or_nat _ _ (by omega) (by omega), Nat.or_comm, nat_join 2 _ _ (by omega) (by omega)]
  have e2 : bits BinOp.or IntKind.u64 ((4 * k + 3 : Nat) : Int) ((t : Int) * 256) = ((256 * t + (4 * k + 3) : Nat) : Int) := by
    rw [show (t : Int) * 256 = ((256 * t : Nat) : Int) by omega, u64_or_nat _ _ (by omega) (by omega), Nat.or_comm, nat_join 8 _ _ (by omega) (by omega)]
  have e3 : bits BinOp.or IntKind.u64 ((256 * t + (4 * k + 3) : Nat) : Int) ((r : Int) * 4294967296) = ((4294967296 * r + (256 * t + (4 * k + 3)) : Nat) : Int) := by
    rw [show (r : Int) * 4294967296 = ((4294967296 * r : Nat) : Int) by omega, u64_or_nat _ _ (by omega) (by omega), Nat.or_comm, nat_join 32 _ _ (by omega) (by omega)]
  rw [e1, e2, e3]
  unfold hOf
  omega

/-- The cells of a heap whose half in use is i. -/
def heapCells (i : Nat) (v u v' u' : Value) (sz : Nat) (tm : Int) : Array Value :=
  if i = 0 then #[v, u, v', u', .int .i64 0, .int .i64 (sz : Int), .int .i64 tm] else #[v', u', v, u, .int .i64 1, .int .i64 (sz : Int), .int .i64 tm]

set_option maxRecDepth 20000 in
theorem now_any (w : World) (hb i : Nat) (v u v' u' : Value) (sz : Nat) (tm : Int) (hi : i ≤ 1) (hblk : w.heap[hb]? = some (.cells (heapCells i v u v' u' sz tm) 134 (0, 0))) :
    Calls Try.prog 60 #[.pointer (some ⟨hb, 0, none⟩)] w fun e w' => e = .returned (.pointer (some ⟨hb, 2 * i, none⟩)) ∧ ∃ n, w' = w.drewN n := by
  have hc : w.cell? ⟨hb, 4, none⟩ = some (.int .i64 (i : Int)) := by
    rw [cell_of_row w hb 4 _ _ _ hblk]
    rcases Nat.le_one_iff_eq_zero_or_eq_one.1 hi with rfl | rfl <;> rfl
  rcases Nat.le_one_iff_eq_zero_or_eq_one.1 hi with rfl | rfl
  · have hc0 : w.cell? ⟨hb, 4, none⟩ = some (.int .i64 0) := hc
    clear hc
    go_enter Try.func60, Try.ntmps60
    go_wp2
    go_quiet (fail)
    go_wp2
    go_ret
    exact ⟨rfl, _, rfl⟩
  · have hc0 : w.cell? ⟨hb, 4, none⟩ = some (.int .i64 1) := hc
    clear hc
    go_enter Try.func60, Try.ntmps60
    go_wp2
    go_quiet (fail)
    go_wp2
    go_ret
    exact ⟨rfl, _, rfl⟩

end Go.Proofs.Ytchdfenickjiiaa
