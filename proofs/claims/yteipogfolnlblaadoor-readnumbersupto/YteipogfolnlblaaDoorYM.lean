/-
  What is proved here: what math/bits.Add32, Sub32, Mul32, Div32 answer, as plain sums, differences, products and quotients. what the small functions without memory of their own answer: nat.trim, tandemlaw00.SameLimbs, math/bits.Add32 and others, for every argument that can be read. plain facts on adding and taking digit by digit, with a carry; no walk. nat.addInto adds one row of limbs to another in place, and nat.takeFrom takes one from another; nothing else in memory turns. tandemlaw00.CopyLimbs, tandemlaw01.c and nat.clone hand back the limbs that they were handed, in new memory; tandemlaw01.same tells that two lists are the same. nat.Add answers the canonical limbs of the sum of all that it is handed, in new memory, for fewer than 2^32 lists that fit a machine. plain facts on multiplying digit by digit; no walk. nat.addTimes adds a multiple of one row of limbs to another in place, and nat.times answers the canonical limbs of the product of two numbers, in new memory. nat.product and nat.Mul answer the limbs of the product of all that they are handed. nat.Cmp tells which of two numbers is less. nat.Sub answers the canonical limbs of the difference and true; nothing and false, where the first number is below the second. num.numberOf cuts the noughts at the end off and keeps the sign of what is not 0; num.work and num.answer turn numbers into what is worked at and back. what the statements of num share: tandemlaw02.c copies a number, tandemlaw02.same tells that two numbers are the same. num.difference, num.total and num.sum: the sum of any numbers with their signs, canonical, in new memory. num.total and num.sum: the sum of any numbers with their signs, canonical, in new memory. num.workAll turns a row of numbers into what is worked at; num.Add answers the sum of all that it is handed. the calls of package num and of its statements, said by the values of the numbers alone.
-/
import Derived.Test.YteipogfolnlblaaDoorYN
import Derived.Test.YteipogfolnlblaaDoorProg
import Derived.Test.YteipogfolnlblaaDoorBase
import Derived.WalkLawsBesides
import Derived.Laws.BitsAllLaws
import Derived.Laws.CopyOwn
import Derived.Laws.AppendOwnNone
import Derived.Deep.RegionWith
import Derived.Deep.QuietTactic
import Derived.BigQuiet
import Derived.Lib.Strings
import Derived.Lib.AppendStr
import Derived.Laws.IdiomStrings
import Derived.Handy
import Derived.Maps.AppendAt
import Derived.Shelf.Strconv.AppendInt10
import Derived.Ground.NamesProg
import Derived.Test.YteipogfolnlblaaDoorRows
import Derived.Laws.MathBits
import Derived.Deep.RegionHeld3
import Derived.Orders
import Derived.Laws.World
namespace Go.Proofs.YteipogfolnlblaaDoor
open Go Go.RowKit

/-- What is borrowed where y and c are taken from x. -/
def bor (x y c : Nat) : Nat := if x < y + c then 1 else 0

theorem bor_le (x y c : Nat) : bor x y c ≤ 1 := by unfold bor; split <;> omega

theorem bor_eq (x y c : Nat) (hx : x < 4294967296) (hy : y < 4294967296) (hc : c ≤ 1) : (x + 4294967296 - y - c) % 4294967296 + y + c = x + 4294967296 * bor x y c := by
  unfold bor
  split <;> omega

theorem top_bit (x : Nat) (hx : x < 4294967296) : x.testBit 31 = decide (2147483648 ≤ x) := by
  rw [Nat.testBit_eq_decide_div_mod_eq]
  apply decide_eq_decide.2
  omega

theorem half_bit (z : Nat) (hz : z < 4294967296) : z / 2147483648 = (z.testBit 31).toNat := by
  rw [top_bit z hz]
  by_cases h : 2147483648 ≤ z <;> simp [h] <;> omega

theorem sub_nat (x y c d : Nat) (hx : x < 4294967296) (hy : y < 4294967296) (hc : c ≤ 1) (hd : d = (x + 4294967296 - y - c) % 4294967296) :
    (((4294967295 ^^^ x) &&& y) ||| ((4294967295 ^^^ (x ^^^ y)) &&& d)) / 2147483648 = bor x y c := by
  have hdl : d < 4294967296 := by omega
  have ha : ((4294967295 ^^^ x) &&& y) < 2 ^ 32 := Nat.and_lt_two_pow _ (by omega)
  have hb : ((4294967295 ^^^ (x ^^^ y)) &&& d) < 2 ^ 32 := Nat.and_lt_two_pow _ (by omega)
  rw [half_bit _ (Nat.or_lt_two_pow ha hb)]
  rw [Nat.testBit_or, Nat.testBit_and, Nat.testBit_and, Nat.testBit_xor, Nat.testBit_xor, Nat.testBit_xor, top_bit x hx, top_bit y hy, top_bit d hdl]
  have e : (4294967295 : Nat).testBit 31 = true := by decide
  rw [e]
  unfold bor
  by_cases h1 : 2147483648 ≤ x <;> by_cases h2 : 2147483648 ≤ y <;> by_cases h3 : 2147483648 ≤ d <;> by_cases h4 : x < y + c <;> simp [h1, h2, h3, h4] <;> omega

theorem sub_bits (x y c : Nat) (hx : x < 4294967296) (hy : y < 4294967296) (hc : c ≤ 1) :
    bits BinOp.or IntKind.u32 (bits BinOp.and IntKind.u32 (bits BinOp.xor IntKind.u32 IntKind.u32.max ↑x) ↑y) (bits BinOp.and IntKind.u32 (bits BinOp.xor IntKind.u32 IntKind.u32.max (bits BinOp.xor IntKind.u32 ↑x ↑y)) (((x : Int) - (y : Int) - (c : Int)) % 4294967296)) / 2147483648 = (bor x y c : Int) := by
  have em : IntKind.u32.max = ((4294967295 : Nat) : Int) := by simp [IntKind.max, IntKind.signed, IntKind.bits]
  have ed : ((x : Int) - (y : Int) - (c : Int)) % 4294967296 = (((x + 4294967296 - y - c) % 4294967296 : Nat) : Int) := by omega
  have hq : (x + 4294967296 - y - c) % 4294967296 < 4294967296 := by omega
  have hn := sub_nat x y c _ hx hy hc rfl
  rw [ed]
  generalize (x + 4294967296 - y - c) % 4294967296 = d at *
  have hxx : (x ^^^ y) < 4294967296 := Nat.xor_lt_two_pow (n := 32) hx hy
  have h1 : (4294967295 ^^^ x) < 4294967296 := Nat.xor_lt_two_pow (n := 32) (by decide) hx
  have h2 : (4294967295 ^^^ (x ^^^ y)) < 4294967296 := Nat.xor_lt_two_pow (n := 32) (by decide) hxx
  have h3 : ((4294967295 ^^^ x) &&& y) < 4294967296 := Nat.and_lt_two_pow (n := 32) _ hy
  have h4 : ((4294967295 ^^^ (x ^^^ y)) &&& d) < 4294967296 := Nat.and_lt_two_pow (n := 32) _ hq
  rw [em, u32_xor_nat _ _ (by decide) hx, u32_xor_nat _ _ hx hy, u32_xor_nat _ _ (by decide) hxx, u32_and_nat _ _ h1 hy, u32_and_nat _ _ h2 hq, u32_or_nat _ _ h3 h4, ← hn]
  rfl

set_option maxHeartbeats 400000 in
theorem sub32_any (x y c : Nat) (w : World) (hx : x < 4294967296) (hy : y < 4294967296) (hc : c ≤ 1) :
    Calls Tryd.prog 79 #[.int .u32 x, .int .u32 y, .int .u32 c] w fun e w' => e = .returned (.tuple #[.int .u32 ((x + 4294967296 - y - c) % 4294967296 : Nat), .int .u32 (bor x y c)]) ∧ w' = w := by
  go_enter Tryd.func79, Tryd.ntmps79
  go_wp2
  go_ret2
  refine ⟨ret2 ?_ ?_, rfl⟩
  · omega
  · exact sub_bits x y c hx hy hc

set_option maxHeartbeats 400000 in
theorem same_any (ao bo : Option Addr) (n m capa capb : Nat) (f g : Nat → Nat) (w : World) (ha : Rd .u32 w ao n f) (hb : Rd .u32 w bo m g) (hn : n ≤ 9223372036854775807) (hm : m ≤ 9223372036854775807)
    (hs : n = m ∧ ∀ i, i < n → f i = g i) :
    Calls Tryd.prog 15 #[.slice ao n capa, .slice bo m capb] w fun e w' => e = .returned (.bool true) ∧ Below w.heap.size w w' := by
  obtain ⟨rfl, hfg⟩ := hs
  by_cases h0 : n = 0
  · subst h0
    go_enter Tryd.func15, Tryd.ntmps15
    go_wp2
    refine wp_loop_rounds 1 ?_
    rw [rounds_succ]
    go_wp2
    go_ret
    exact ⟨rfl, Below.refl _ _⟩
  · rcases ha with ha | ⟨b, off, rfl, hca⟩
    · exact absurd ha h0
    rcases hb with hb | ⟨b', off', rfl, hcb⟩
    · exact absurd hb h0
    have hne : ((n : Int) != (n : Int)) = false := by simp
    go_enter Tryd.func15, Tryd.ntmps15
    go_wp2
    go_loopw [5] (fun t wr => ∃ k : Nat, k ≤ n ∧ t = .int .i64 k ∧ Below w.heap.size w wr) (fun t _ => n - (intOf t).toNat)
    case atStart => exact ⟨0, Nat.zero_le _, rfl, Below.refl _ _⟩
    case round =>
      obtain ⟨k, hk, rfl, hbel⟩ := hrel
      by_cases hlt : k < n
      · have hx := (hbel.cell (p := ⟨b, off + k, none⟩) (Rd.lt hca (by omega))).trans (hca k hlt)
        have hy := (hbel.cell (p := ⟨b', off' + k, none⟩) (Rd.lt hcb (by omega))).trans (hcb k hlt)
        have hxy := hfg k hlt
        rw [← hxy] at hy
        generalize f k = x at *
        clear hfg hca hcb hxy
        have hb : ((x : Int) != (x : Int)) = false := by simp
        go_wp2
        go_region
        all_goals go_wp2
        all_goals go_roundw
        case rel => exact ⟨k + 1, by omega, by go_num, hbel.drew⟩
        case measure => simp [intOf]; omega
      · go_wp2
        go_ret
        exact ⟨rfl, hbel⟩

set_option maxHeartbeats 1000000 in
theorem addInto_any (g off N K n m cap capb : Nat) (f h : Nat → Nat) (bo : Option Addr) (w : World)
    (hrow : RowAt .u32 63 w g N K f) (hoff : off + n ≤ K) (hb : Rd .u32 w bo m h) (hsep : ∀ a, bo = some a → m ≠ 0 → a.block ≠ g) (hmn : m ≤ n) (hn : n ≤ 9223372036854775807)
    (hf : ∀ i, i < n → f (off + i) < 4294967296) (hh : ∀ i, i < m → h i < 4294967296) :
    Calls Tryd.prog 80 #[.slice (some ⟨g, off, none⟩) n cap, .slice bo m capb] w fun e w' => ∃ (f' : Nat → Nat) (c : Nat), e = .returned (.int .u32 c) ∧ RowAt .u32 63 w' g N K f' ∧ Only g w w' ∧ AddRel f (cut h m) off n n f' c := by
  by_cases hm0 : m = 0
  · subst hm0
    go_enter Tryd.func80, Tryd.ntmps80
    go_wp2
    refine wp_loop_rounds 1 ?_
    rw [rounds_succ]
    go_wp2
    refine wp_loop_rounds 1 ?_
    rw [rounds_succ]
    go_wp2
    go_ret
    exact ⟨f, 0, rfl, hrow, Only.refl _ _, (AddRel.start hf).rest (by omega) (fun i _ _ => cut_out (by omega))⟩
  rcases hb with hb | ⟨b, offb, rfl, hc⟩
  · exact absurd hb hm0
  have hbg : b ≠ g := hsep _ rfl hm0
  clear hsep
  go_enter Tryd.func80, Tryd.ntmps80
  go_wp2
  go_loopw [5, 11] (fun c t wr => ∃ (k : Nat) (f' : Nat → Nat) (cc : Nat), k ≤ m ∧ t = .int .i64 k ∧ c = .int .u32 cc ∧ RowAt .u32 63 wr g N K f' ∧ Only g w wr ∧ AddRel f (cut h m) off n k f' cc) (fun _ t _ => m - (intOf t).toNat)
  case atStart => exact ⟨0, f, 0, Nat.zero_le _, rfl, rfl, hrow, Only.refl _ _, AddRel.start hf⟩
  case round =>
    obtain ⟨k, f', cc, hk, rfl, rfl, hr, ho, hrl⟩ := hrel
    have hcc : cc ≤ 1 := hrl.1
    by_cases hlt : k < m
    · have hx := hr.cell (i := off + k) (by omega)
      have hfr := hr.free (off + k)
      have hy := (ho.cell (p := ⟨b, offb + k, none⟩) hbg).trans (hc k hlt)
      have hxl : f' (off + k) < 4294967296 := hrl.2.2.1 k (by omega)
      have hyl := hh k hlt
      have HS := hide (hrl.step (x := f' (off + k)) (y := h k) (by omega) rfl (cut_in hlt) hyl)
      have HR := hide hr
      have HO := hide ho
      clear hrl hr ho hc hh hf hrow
      generalize f' (off + k) = x at *
      generalize h k = y at *
      go_wp2_with (go_at_call 91; refine (add32_any _ _ _ _ (by omega) (by omega) (by omega)).mono ?_; rintro e w' ⟨rfl, rfl⟩)
      go_roundw
      case rel => exact ⟨k + 1, _, _, by omega, by go_num, rfl, (unhide HR).set (by omega) _, (unhide HO).setCell _ _, unhide HS⟩
      case measure => simp [intOf]; omega
    · have hkm : k = m := by omega
      subst hkm
      go_wp2
      go_loopw [5, 8] (fun c t wr => ∃ (j : Nat) (f' : Nat → Nat) (cc : Nat), k ≤ j ∧ j ≤ n ∧ t = .int .i64 j ∧ c = .int .u32 cc ∧ RowAt .u32 63 wr g N K f' ∧ Only g w wr ∧ AddRel f (cut h k) off n j f' cc) (fun _ t _ => n - (intOf t).toNat)
      case atStart => exact ⟨k, f', cc, Nat.le_refl _, hmn, rfl, rfl, hr, ho, hrl⟩
      case round =>
        clear hr ho hrl hcc
        obtain ⟨j, f', cc, hj1, hj2, rfl, rfl, hr, ho, hrl⟩ := hrel
        have hcc : cc ≤ 1 := hrl.1
        by_cases hc0 : cc = 0
        · subst hc0
          go_wp2
          go_ret
          exact ⟨f', 0, rfl, hr, ho, hrl.rest hj2 (fun i h1 _ => cut_out (by omega))⟩
        · have hc1 : ((cc : Int) != 0) = true := by rw [bne_iff_ne]; omega
          by_cases hlt : j < n
          · have hx := hr.cell (i := off + j) (by omega)
            have hfr := hr.free (off + j)
            have hxl : f' (off + j) < 4294967296 := hrl.2.2.1 j (by omega)
            have HS := hide (hrl.step (x := f' (off + j)) (y := 0) (by omega) rfl (cut_out hj1) (by decide))
            have HR := hide hr
            have HO := hide ho
            clear hrl hr ho hc hh hf hrow
            generalize f' (off + j) = x at *
            go_wp2_with (go_at_call 91; refine (add32_any _ 0 _ _ (by omega) (by omega) (by omega)).mono ?_; rintro e w' ⟨rfl, rfl⟩)
            go_roundw
            case rel => exact ⟨j + 1, _, _, by omega, by omega, by go_num, rfl, (unhide HR).set (by omega) _, (unhide HO).setCell _ _, unhide HS⟩
            case measure => simp [intOf]; omega
          · have hjn : j = n := by omega
            subst hjn
            go_wp2
            go_ret
            exact ⟨f', cc, rfl, hr, ho, hrl⟩

set_option maxHeartbeats 1000000 in
theorem takeFrom_any (g off N K n m cap capb : Nat) (f h : Nat → Nat) (bo : Option Addr) (w : World)
    (hrow : RowAt .u32 63 w g N K f) (hoff : off + n ≤ K) (hb : Rd .u32 w bo m h) (hsep : ∀ a, bo = some a → m ≠ 0 → a.block ≠ g) (hmn : m ≤ n) (hn : n ≤ 9223372036854775807)
    (hf : ∀ i, i < n → f (off + i) < 4294967296) (hh : ∀ i, i < m → h i < 4294967296) :
    Calls Tryd.prog 64 #[.slice (some ⟨g, off, none⟩) n cap, .slice bo m capb] w fun e w' => e = .returned (.tuple #[]) ∧ ∃ f' c, RowAt .u32 63 w' g N K f' ∧ Only g w w' ∧ SubRel f (cut h m) off n n f' c := by
  by_cases hm0 : m = 0
  · subst hm0
    go_enter Tryd.func64, Tryd.ntmps64
    go_wp2
    refine wp_loop_rounds 1 ?_
    rw [rounds_succ]
    go_wp2
    refine wp_loop_rounds 1 ?_
    rw [rounds_succ]
    go_wp2
    go_end0
    exact ⟨rfl, f, 0, hrow, Only.refl _ _, (SubRel.start hf).rest (by omega) (fun i _ _ => cut_out (by omega))⟩
  rcases hb with hb | ⟨b, offb, rfl, hc⟩
  · exact absurd hb hm0
  have hbg : b ≠ g := hsep _ rfl hm0
  clear hsep
  go_enter Tryd.func64, Tryd.ntmps64
  go_wp2
  go_loopw [4, 10] (fun c t wr => ∃ (k : Nat) (f' : Nat → Nat) (cc : Nat), k ≤ m ∧ t = .int .i64 k ∧ c = .int .u32 cc ∧ RowAt .u32 63 wr g N K f' ∧ Only g w wr ∧ SubRel f (cut h m) off n k f' cc) (fun _ t _ => m - (intOf t).toNat)
  case atStart => exact ⟨0, f, 0, Nat.zero_le _, rfl, rfl, hrow, Only.refl _ _, SubRel.start hf⟩
  case round =>
    obtain ⟨k, f', cc, hk, rfl, rfl, hr, ho, hrl⟩ := hrel
    have hcc : cc ≤ 1 := hrl.1
    by_cases hlt : k < m
    · have hx := hr.cell (i := off + k) (by omega)
      have hfr := hr.free (off + k)
      have hy := (ho.cell (p := ⟨b, offb + k, none⟩) hbg).trans (hc k hlt)
      have hxl : f' (off + k) < 4294967296 := hrl.2.2.1 k (by omega)
      have hyl := hh k hlt
      have HS := hide (hrl.step (x := f' (off + k)) (y := h k) (by omega) rfl (cut_in hlt) (Nat.mod_lt _ (by decide)) (bor_le _ _ _) (bor_eq _ _ _ hxl hyl hcc))
      have HR := hide hr
      have HO := hide ho
      clear hrl hr ho hc hh hf hrow
      generalize f' (off + k) = x at *
      generalize h k = y at *
      go_wp2_with (go_at_call 79; refine (sub32_any _ _ _ _ (by omega) (by omega) (by omega)).mono ?_; rintro e w' ⟨rfl, rfl⟩)
      go_roundw
      case rel => exact ⟨k + 1, _, _, by omega, by go_num, rfl, (unhide HR).set (by omega) _, (unhide HO).setCell _ _, unhide HS⟩
      case measure => simp [intOf]; omega
    · have hkm : k = m := by omega
      subst hkm
      go_wp2
      go_loopw [4, 7] (fun c t wr => ∃ (j : Nat) (f' : Nat → Nat) (cc : Nat), k ≤ j ∧ j ≤ n ∧ t = .int .i64 j ∧ c = .int .u32 cc ∧ RowAt .u32 63 wr g N K f' ∧ Only g w wr ∧ SubRel f (cut h k) off n j f' cc) (fun _ t _ => n - (intOf t).toNat)
      case atStart => exact ⟨k, f', cc, Nat.le_refl _, hmn, rfl, rfl, hr, ho, hrl⟩
      case round =>
        clear hr ho hrl hcc
        obtain ⟨j, f', cc, hj1, hj2, rfl, rfl, hr, ho, hrl⟩ := hrel
        have hcc : cc ≤ 1 := hrl.1
        by_cases hc0 : cc = 0
        · subst hc0
          go_wp2
          go_end0
          exact ⟨rfl, f', 0, hr, ho, hrl.rest hj2 (fun i h1 _ => cut_out (by omega))⟩
        · have hc1 : ((cc : Int) != 0) = true := by rw [bne_iff_ne]; omega
          by_cases hlt : j < n
          · have hx := hr.cell (i := off + j) (by omega)
            have hfr := hr.free (off + j)
            have hxl : f' (off + j) < 4294967296 := hrl.2.2.1 j (by omega)
            have HS := hide (hrl.step (x := f' (off + j)) (y := 0) (by omega) rfl (cut_out hj1) (Nat.mod_lt _ (by decide)) (bor_le _ _ _) (bor_eq _ _ _ hxl (by decide) hcc))
            have HR := hide hr
            have HO := hide ho
            clear hrl hr ho hc hh hf hrow
            generalize f' (off + j) = x at *
            go_wp2_with (go_at_call 79; refine (sub32_any _ 0 _ _ (by omega) (by omega) (by omega)).mono ?_; rintro e w' ⟨rfl, rfl⟩)
            go_roundw
            case rel => exact ⟨j + 1, _, _, by omega, by omega, by go_num, rfl, (unhide HR).set (by omega) _, (unhide HO).setCell _ _, unhide HS⟩
            case measure => simp [intOf]; omega
          · have hjn : j = n := by omega
            subst hjn
            go_wp2
            go_end0
            exact ⟨rfl, f', cc, hr, ho, hrl⟩

/-- make([]uint32, n, N): a block of its own, all noughts, n of them in sight. -/
theorem wpList_mkUc {w : World} {ops : Array Oper} {rest : List Oper} {o : Oper} {a : Act} {Q : Exit → Act → World → Prop}
    (hg : o.guard = none) (l c : Operand) (hop : o.op = Op.makeSlice 22 l c)
    (kl kc : IntKind) (L C : Int) (n N : Nat) (hl : a.eval l = .int kl L) (hc : a.eval c = .int kc C) (hL : L = (n : Int)) (hC : C = (N : Int)) (hnN : n ≤ N) (b2 : 4 * N ≤ 281474976710656)
    (hK : ∀ w', RowAt .u32 63 w' w.heap.size N n (fun _ => 0) → Below w.heap.size w w' → wpList Tryd.prog ops Q rest (a.put o.dst (.slice (some ⟨w.heap.size, 0, none⟩) n N)) w') :
    wpList Tryd.prog ops Q (o :: rest) a w := by
  obtain ⟨i, hi, hz0, hz1, hz2⟩ := info_parts infoU
  have hrun := run_make (P := Tryd.prog) w 22 63 i (.int .u32 0) Tryd.underlying22 hi hz0 kl kc n N (by omega) (by omega) (by rw [hz2]; omega) (by omega)
  simp only [Int.toNat_natCast, hz1, Nat.mul_one] at hrun
  subst hL hC
  refine wpList_plain hg fun K hK' => ?_
  unfold Oper.wp
  simp [execOp, hop, hl, hc, hrun, Result.andThen]
  refine hK' _ _ (hK _ ⟨madeCells (Value.int .u32 0).cells N, heap_alloc_new w _, size_madeCells _ _, hnN, fun i hi => ?_⟩ ((Below.refl _ _).alloc (Nat.le_refl _) _))
  have : i < N := by omega
  simp [madeCells, this, Nat.mod_one, Value.cells]

theorem num_push {B : Nat} {f : Nat → Nat} {n x : Nat} : num B (upd f n x) (n + 1) = num B f n + x * B ^ n := by
  rw [num_succ, upd_same, num_congr (g := f) (fun i hi => upd_other (by omega))]

set_option maxHeartbeats 1000000 in
/-- Adding a list to a row of limbs of the call's own, with room for what is carried out of it. -/
theorem addGrowing_any (g cap n m capb : Nat) (f h : Nat → Nat) (bo : Option Addr) (w : World)
    (hrow : RowAt .u32 63 w g cap n f) (hb : Rd .u32 w bo m h) (hsep : ∀ a, bo = some a → m ≠ 0 → a.block ≠ g) (hmn : m ≤ n) (hn : cap ≤ 9223372036854775807)
    (hf : ∀ i, i < n → f i < 4294967296) (hh : ∀ i, i < m → h i < 4294967296) (hfit : num 4294967296 f n + num 4294967296 h m < 4294967296 ^ cap) :
    Calls Tryd.prog 65 #[.slice (some ⟨g, 0, none⟩) n cap, .slice bo m capb] w fun e w' => ∃ (n' : Nat) (f' : Nat → Nat), e = .returned (.slice (some ⟨g, 0, none⟩) n' cap) ∧ n ≤ n' ∧ RowAt .u32 63 w' g cap n' f' ∧ Below g w w' ∧ (∀ i, i < n' → f' i < 4294967296) ∧ num 4294967296 f' n' = num 4294967296 f n + num 4294967296 h m := by
  obtain ⟨i, hi, hz0, hz1, hz2⟩ := info_parts infoU
  have hncap := hrow.le
  have hlt := hrow.lt
  have HFIT := hide hfit
  clear hfit
  go_enter Tryd.func65, Tryd.ntmps65
  go_wp2_with fail
  refine (addInto_any g 0 cap n n m cap capb f h bo w hrow (by omega) hb hsep hmn (by omega) (by simpa using hf) hh).mono ?_
  rintro e w1 ⟨f1, c, rfl, hr1, ho1, hrel⟩
  obtain ⟨h4, h5, h6, h7⟩ := hrel
  simp only [Nat.zero_add] at h6
  have e0 : ∀ q : Nat → Nat, (fun i => q (0 + i)) = q := fun q => by funext i; rw [Nat.zero_add]
  rw [num_cut hmn, e0, e0] at h7
  have HE := hide h7
  have hb1 : Below g w w1 := Only.below (Below.refl _ _) ho1 (Nat.le_refl _)
  have HSZ := hide ho1.size
  clear h7 h5 hf hh hsep hb e0 ho1
  by_cases hc : c = 0
  · subst hc
    go_wp2_with fail
    go_ret
    exact ⟨n, f1, rfl, Nat.le_refl _, hr1, hb1, h6, by have := unhide HE; omega⟩
  · obtain rfl : c = 1 := by omega
    have hroom : n + 1 ≤ cap := by
      apply Nat.lt_of_not_le
      intro hle
      have e : n = cap := by omega
      subst e
      have := unhide HE
      have := unhide HFIT
      omega
    have hown1 : Own .u32 63 w1 g (.slice (some ⟨g, 0, none⟩) n cap) n f1 := .inr ⟨g, cap, rfl, Nat.le_refl _, hn, hr1⟩
    have hrow1 := hown1.row
    go_wp2_with (at_builtin; refine wpList_append_fits _ rfl _ _ 22 rfl g 63 i 1 Tryd.underlying22 hi hz1 g n cap _ rfl (hrow1.alloc _) ⟨w1.heap.size, 0, none⟩ 1 1 [.int .u32 1] rfl rfl (cells_one _ _ _) (fun u hu => by simp at hu; subst hu; rfl) hroom ?_; intro w4 hown4 hgrow4)
    go_ret
    have hsz := unhide HSZ
    have hown5 : Own .u32 63 w4 g (.slice (some ⟨g, 0, none⟩) (n + 1) cap) (n + 1) (upd f1 n 1) := Own.of_row hown4 (fun j hj => by
      by_cases e : j = n
      · subst e
        rw [upd_same, List.getElem?_append_right (by rw [cellsOf_length]; exact Nat.le_refl _), cellsOf_length]
        simp
      · rw [upd_other e, List.getElem?_append_left (by rw [cellsOf_length]; omega), cellsOf_get _ _ _ _ (by omega)])
    have hr4 : RowAt .u32 63 w4 g cap (n + 1) (upd f1 n 1) := by
      rcases hown5 with ⟨h, _⟩ | ⟨g', cap', h, _, _, hr⟩
      · cases h
      · cases h
        exact hr
    have hb4 : Below g w w4 := (hb1.alloc (by omega) _).grown hgrow4 (by simp; omega) (fun j hj => by cases hj; exact Nat.le_refl _)
    refine ⟨n + 1, upd f1 n 1, rfl, by omega, hr4, hb4, fun i hi => ?_, ?_⟩
    · by_cases e : i = n
      · rw [e, upd_same]; decide
      · rw [upd_other e]; exact h6 i (by omega)
    · rw [num_push]
      exact unhide HE

theorem total_lt {ns : Nat → Nat} {fs : Nat → Nat → Nat} {k L : Nat} (hfs : ∀ j, j < k → ∀ i, i < ns j → fs j i < 4294967296) (hL : ∀ j, j < k → ns j ≤ L) : total ns fs k ≤ k * 4294967296 ^ L := by
  induction k with
  | zero => simp [total]
  | succ k ih =>
    have h1 := ih (fun j hj => hfs j (by omega)) (fun j hj => hL j (by omega))
    have h2 := num_lt_pow (hfs k (by omega)) (hL k (by omega))
    rw [total, Nat.add_mul, Nat.one_mul]
    omega

/-- So few numbers of L limbs: their sum has at most one limb more. -/
theorem sum_fits {x k L : Nat} (h : x < (k + 1) * 4294967296 ^ L) (hk : k + 1 ≤ 4294967296) : x < 4294967296 ^ (L + 1) := by
  have h1 : (k + 1) * 4294967296 ^ L ≤ 4294967296 * 4294967296 ^ L := Nat.mul_le_mul_right _ hk
  rw [Nat.pow_succ, Nat.mul_comm _ 4294967296]
  omega

theorem can_of_trim {f : Nat → Nat} {n m : Nat} (hf : ∀ i, i < n → f i < 4294967296) (hm : m ≤ n) (ht : m = 0 ∨ f (m - 1) ≠ 0) : Can 4294967296 f m := ⟨fun i hi => hf i (by omega), ht⟩

set_option maxHeartbeats 2000000 in
theorem add_any (v u : Value) (n m k capm M : Nat) (f q : Nat → Nat) (mo : Option Addr) (vs : Nat → Value) (ns : Nat → Nat) (fs : Nat → Nat → Nat) (w : World)
    (hv : Sl .u32 w v n f) (hu : Sl .u32 w u m q) (hm : Rds w mo k vs) (hs : ∀ i, i < k → Sl .u32 w (vs i) (ns i) (fs i))
    (hf : ∀ i, i < n → f i < 4294967296) (hh : ∀ i, i < m → q i < 4294967296) (hfs : ∀ j, j < k → ∀ i, i < ns j → fs j i < 4294967296)
    (hn : n ≤ M) (hmM : m ≤ M) (hns : ∀ j, j < k → ns j ≤ M) (hM : 4 * (M + 1) ≤ 281474976710656) (hk : k + 2 ≤ 4294967296) :
    Calls Tryd.prog 46 #[v, u, .slice mo k capm] w fun e w' => ∃ v' n' f', e = .returned v' ∧ Own .u32 63 w' w.heap.size v' n' f' ∧ Below w.heap.size w w' ∧ Can 4294967296 f' n' ∧ n' ≤ M + 1 ∧
      num 4294967296 f' n' = num 4294967296 f n + num 4294967296 q m + total ns fs k := by
  obtain ⟨ao, cap, rfl, h1, h2, h0, h3⟩ := hv
  obtain ⟨bo, capb, rfl, g1, g2, g0, g3⟩ := hu
  clear h0 g0
  go_enter Tryd.func46, Tryd.ntmps46
  go_wp2_with fail
  all_goals
    go_loop [7, 20] (fun l t => ∃ j L : Nat, j ≤ k ∧ t = .int .i64 j ∧ l = .int .i64 L ∧ n ≤ L ∧ m ≤ L ∧ L ≤ M ∧ ∀ i, i < j → ns i ≤ L) (fun _ t => k - (intOf t).toNat)
    case atStart => exact ⟨0, max n m, Nat.zero_le _, rfl, by congr 1; omega, by omega, by omega, by omega, fun i hi => by omega⟩
    case round =>
      obtain ⟨j, L, hj, rfl, rfl, l1, l2, l3, l4⟩ := hrel
      by_cases hjk : j < k
      · rcases hm with hm | ⟨b, off, rfl, hc⟩
        · omega
        obtain ⟨ao', cap', e', p1, p2, p0, p3⟩ := hs j hjk
        have hx := hc j hjk
        rw [e'] at hx
        have hnj := hns j hjk
        have l4' := hide l4
        clear hc hs hfs l4 e' hns hf hh p0
        generalize hq : ns j = nj at *
        have HQ := hide hq
        clear hq
        by_cases hlt : L < nj
        · go_wp2
          go_round
          case rel => exact ⟨j + 1, nj, by omega, by go_num, by first | rfl | (congr 1; omega), by omega, by omega, by omega, fun i hi => by
              by_cases e : i = j
              · rw [e, unhide HQ]; omega
              · have := unhide l4' i (by omega); omega⟩
          case measure => simp [intOf]; omega
        · go_wp2
          go_round
          case rel => exact ⟨j + 1, L, by omega, by go_num, by first | rfl | (congr 1; omega), by omega, by omega, by omega, fun i hi => by
              by_cases e : i = j
              · rw [e, unhide HQ]; omega
              · have := unhide l4' i (by omega); omega⟩
          case measure => simp [intOf]; omega
      · have hjk' : j = k := by omega
        subst hjk'
        have sepA := h3.apart (Nat.le_refl _)
        have sepB := g3.apart (Nat.le_refl _)
        have na := num_lt_pow hf l1
        have nb := num_lt_pow hh l2
        have z0 : num 4294967296 (fun _ => 0) L = 0 := by rw [num_tail (n := 0) (by omega) (fun _ _ _ => rfl)]; rfl
        have fit1 : num 4294967296 (fun _ => 0) L + num 4294967296 f n < 4294967296 ^ (L + 1) := by
          rw [z0]; exact sum_fits (k := 0) (by omega) (by omega)
        have fit2 : num 4294967296 f n + num 4294967296 q m < 4294967296 ^ (L + 1) := sum_fits (k := 1) (by omega) (by omega)
        have NA := hide na
        have NB := hide nb
        have Z0 := hide z0
        clear na nb z0
        go_wp2_with (at_make; refine wpList_mkUc rfl _ _ rfl .i64 .i64 _ _ L (L + 1) rfl rfl (by omega) (by omega) (by omega) (by omega) ?_; intro w1 hr1 hb1)
        refine (addGrowing_any _ (L + 1) L _ _ (fun _ => 0) f _ _ hr1 (h3.below hb1 (Nat.le_refl _)) sepA (by omega) (by omega) (fun _ _ => by decide) hf fit1).mono ?_
        rintro e w2 ⟨n2, f2, rfl, hn2, hr2, ho2, hd2, hs2⟩
        have hb2 := hb1.trans ho2
        have hl2 := hr2.le
        rw [unhide Z0, Nat.zero_add] at hs2
        have HS2 := hide hs2
        clear hb1 hr1 ho2 hs2 fit1
        go_wp2_with fail
        refine (addGrowing_any _ (L + 1) n2 _ _ f2 q _ _ hr2 (g3.below hb2 (Nat.le_refl _)) sepB (by omega) (by omega) hd2 hh (by rw [unhide HS2]; exact fit2)).mono ?_
        rintro e w3 ⟨n3, f3, rfl, hn3, hr3, ho3, hd3, hs3⟩
        have hb3 := hb2.trans ho3
        have hl3 := hr3.le
        rw [unhide HS2] at hs3
        have HS3 := hide hs3
        clear hb2 hr2 ho3 hs3 hd2 fit2
        go_wp2_with fail
        go_loopw [10, 41] (fun s t wr => ∃ (i ln : Nat) (f' : Nat → Nat), i ≤ j ∧ t = .int .i64 i ∧ s = .slice (some ⟨w.heap.size, 0, none⟩) ln (L + 1) ∧ L ≤ ln ∧ RowAt .u32 63 wr w.heap.size (L + 1) ln f' ∧ Below w.heap.size w wr ∧ (∀ i, i < ln → f' i < 4294967296) ∧ num 4294967296 f' ln = num 4294967296 f n + num 4294967296 q m + total ns fs i) (fun _ t _ => j - (intOf t).toNat)
        case atStart => exact ⟨0, n3, f3, Nat.zero_le _, rfl, rfl, by omega, hr3, hb3, hd3, by rw [unhide HS3]; rfl⟩
        case round =>
          obtain ⟨i, ln, f', hi, rfl, rfl, hLn, hr, hb, hd, hsum⟩ := hrel
          have HSUM := hide hsum
          have hln := hr.le
          clear hsum hr3 hb3 hd3 HS3
          by_cases hij : i < j
          · rcases hm with hm | ⟨b, off, rfl, hc⟩
            · omega
            obtain ⟨ao', cap', e', p1, p2, p0, p3⟩ := hs i hij
            have hx := (hb.cell (p := ⟨b, off + i, none⟩) (World.block_lt_of_cell? w _ (hc i hij))).trans (hc i hij)
            rw [e'] at hx
            have hfit : num 4294967296 f' ln + num 4294967296 (fs i) (ns i) < 4294967296 ^ (L + 1) := by
              have t1 := total_lt (k := i) (fun j hj => hfs j (by omega)) (fun j hj => l4 j (by omega))
              have t2 := num_lt_pow (hfs i hij) (l4 i hij)
              have t3 := unhide NA
              have t4 := unhide NB
              rw [unhide HSUM]
              refine sum_fits (k := i + 2) ?_ (by omega)
              rw [show i + 2 + 1 = i + 3 from rfl, Nat.add_mul]
              omega
            have hni := l4 i hij
            have hfi := hfs i hij
            have psep := p3.apart (Nat.le_refl _)
            clear hc hs hfs l4 e' hns hf hh p0 sepA sepB
            go_wp2_with fail
            refine (addGrowing_any _ (L + 1) ln _ _ f' (fs i) _ _ hr (p3.below hb (Nat.le_refl _)) psep (by omega) (by omega) hd hfi hfit).mono ?_
            rintro e w4 ⟨n4, f4, rfl, hn4, hr4, ho4, hd4, hs4⟩
            have hb4 := hb.trans ho4
            have HS4 := hide hs4
            clear hs4 hr hb ho4 hd hfit
            go_wp2_with fail
            go_roundw
            case rel => exact ⟨i + 1, n4, f4, by omega, by go_num, rfl, by omega, hr4, hb4, hd4, by rw [unhide HS4, unhide HSUM, show total ns fs (i + 1) = total ns fs i + num 4294967296 (fs i) (ns i) from rfl]; omega⟩
            case measure => simp [intOf]; omega
          · have hij' : i = j := by omega
            subst hij'
            go_wp2_with fail
            refine (trim_any _ ln _ f' _ hr.rd hln (by omega)).mono ?_
            rintro e w5 ⟨rfl, m', hm', rfl, hz, ht⟩
            go_wp2_with fail
            go_ret
            exact ⟨_, m', f', rfl, (hr.mono hm').own (Nat.le_refl _) (by omega), hb, can_of_trim hd hm' ht, by omega, by rw [← unhide HSUM, num_tail hm' hz]⟩

theorem infoS : (Tryd.prog.info? 22).map (fun i => (i.zero, i.size, i.bytes)) = some (some (.slice none 0 0), 1, 24) := by kernel_rfl

theorem valsOf_length (vs : Nat → Value) (n : Nat) : (valsOf vs n).length = n := by simp [valsOf]

/-- -1, 0 or 1. -/
def cmpN (x y : Nat) : Int := if x < y then -1 else if y < x then 1 else 0

theorem cmpN_lt {x y : Nat} (h : x < y) : cmpN x y = -1 := by simp [cmpN, h]

theorem cmpN_gt {x y : Nat} (h : y < x) : cmpN x y = 1 := by simp [cmpN, h]; omega

theorem cmpN_eq {x y : Nat} (h : x = y) : cmpN x y = 0 := by simp [cmpN, h]

theorem ret_int {k : IntKind} {a b : Int} (h : a = b) : Ending.returned (.int k a) = .returned (.int k b) := by rw [h]

theorem sign_yes (w : World) : Calls Tryd.prog 78 #[.bool true] w fun e w' => e = .returned (.int .i64 1) ∧ w' = w := by
  go_enter Tryd.func78, Tryd.ntmps78
  go_wp2
  go_ret
  exact ⟨rfl, rfl⟩

theorem sign_no (w : World) : Calls Tryd.prog 78 #[.bool false] w fun e w' => e = .returned (.int .i64 (-1)) ∧ w' = w := by
  go_enter Tryd.func78, Tryd.ntmps78
  go_wp2
  go_ret
  exact ⟨rfl, rfl⟩

set_option maxHeartbeats 1000000 in
theorem cmp_any (v u : Value) (n m : Nat) (f h : Nat → Nat) (w : World) (hv : Sl .u32 w v n f) (hu : Sl .u32 w u m h) (hf : ∀ i, i < n → f i < 4294967296) (hh : ∀ i, i < m → h i < 4294967296) :
    Calls Tryd.prog 63 #[v, u] w fun e w' => e = .returned (.int .i64 (cmpN (num 4294967296 f n) (num 4294967296 h m))) ∧ Below w.heap.size w w' := by
  obtain ⟨ao, cap, rfl, h1, h2, h0, h3⟩ := hv
  obtain ⟨bo, capb, rfl, g1, g2, g0, g3⟩ := hu
  clear h0 g0
  go_enter Tryd.func63, Tryd.ntmps63
  go_wp2_with fail
  refine (trim_any _ _ _ f _ h3 h1 h2).mono ?_
  rintro e w1 ⟨rfl, p, hp, rfl, zp, tp⟩
  go_wp2_with fail
  refine (trim_any _ _ _ h _ g3 g1 g2).mono ?_
  rintro e w1 ⟨rfl, q, hq, rfl, zq, tq⟩
  have e1 := num_tail (B := 4294967296) hp zp
  have e2 := num_tail (B := 4294967296) hq zq
  have cf : Can 4294967296 f p := ⟨fun i hi => hf i (by omega), tp⟩
  have ch : Can 4294967296 h q := ⟨fun i hi => hh i (by omega), tq⟩
  have HE1 := hide e1
  have HE2 := hide e2
  clear e1 e2 zp zq tp tq hf hh
  rcases Nat.lt_trichotomy p q with hpq | hpq | hpq
  · have hb : ((p : Int) != (q : Int)) = true := by rw [bne_iff_ne]; omega
    have hd : decide (q < p) = false := by simp; omega
    have HF := hide (can_lt (by decide) cf.1 ch hpq)
    clear cf ch
    go_wp2_with fail
    refine (sign_no _).mono ?_
    rintro e w1 ⟨rfl, rfl⟩
    go_wp2_with fail
    go_ret
    exact ⟨ret_int (by rw [unhide HE1, unhide HE2, cmpN_lt (unhide HF)]), Below.refl _ _⟩
  · subst hpq
    have hb : ((p : Int) != (p : Int)) = false := by simp
    go_wp2_with fail
    go_loopw [5] (fun t wr => ∃ j : Nat, j ≤ p ∧ t = .int .i64 ((j : Int) - 1) ∧ (∀ i, j ≤ i → i < p → f i = h i) ∧ Below w1.heap.size w1 wr) (fun t _ => (intOf t + 1).toNat)
    case atStart => exact ⟨p, Nat.le_refl _, rfl, fun i _ _ => by omega, Below.refl _ _⟩
    case round =>
      obtain ⟨j, hj, rfl, hsame, hbel⟩ := hrel
      have HSAME := hide hsame
      clear hsame
      by_cases hj0 : j = 0
      · subst hj0
        go_wp2_with fail
        go_ret
        refine ⟨ret_int ?_, hbel⟩
        rw [unhide HE1, unhide HE2, cmpN_eq (num_congr (fun i hi => unhide HSAME i (by omega) hi))]
      · rcases h3 with h3 | ⟨b, off, rfl, hc⟩
        · omega
        rcases g3 with g3 | ⟨b', off', rfl, hc'⟩
        · omega
        obtain ⟨i, rfl⟩ : ∃ i, j = i + 1 := ⟨j - 1, by omega⟩
        have hx := (hbel.cell (p := ⟨b, off + i, none⟩) (Rd.lt hc (by omega))).trans (hc i (by omega))
        have hy := (hbel.cell (p := ⟨b', off' + i, none⟩) (Rd.lt hc' (by omega))).trans (hc' i (by omega))
        have hi0 : (0 : Int) ≤ (i : Int) := by omega
        have hip : (i : Int) < (p : Int) := by omega
        clear hc hc'
        rw [show (((i + 1 : Nat) : Int) - 1) = (i : Int) from by omega]
        rcases Nat.lt_trichotomy (f i) (h i) with hlt | hlt | hlt
        · have HF := hide (num_less (B := 4294967296) cf.1 (show i < p by omega) hlt (fun i h1 h2 => unhide HSAME i (by omega) h2))
          clear cf ch
          generalize f i = x at *
          generalize h i = y at *
          have hb2 : ((x : Int) != (y : Int)) = true := by rw [bne_iff_ne]; omega
          have hd2 : decide (y < x) = false := by simp; omega
          go_wp2_with fail
          go_region
          all_goals go_wp2_with fail
          go_region_with (go_at_call 78; refine (sign_no _).mono ?_; rintro e w2 ⟨rfl, rfl⟩)
          all_goals go_wp2_with fail
          all_goals go_ret
          all_goals exact ⟨ret_int (by rw [unhide HE1, unhide HE2, cmpN_lt (unhide HF)]), by repeat (first | exact hbel | apply Below.drew)⟩
        · have HXY := hide hlt
          rw [← hlt] at hy
          clear hlt cf ch
          generalize f i = x at hx hy
          have hb2 : ((x : Int) != (x : Int)) = false := by simp
          go_wp2_with fail
          go_region
          all_goals go_wp2_with fail
          all_goals go_roundw
          case rel => exact ⟨i, by omega, by go_num, fun i' h1 h2 => by
            by_cases e : i' = i
            · rw [e]; exact unhide HXY
            · exact unhide HSAME i' (by omega) h2, hbel.drew⟩
          case measure => simp [intOf]
        · have HF := hide (num_less (B := 4294967296) ch.1 (show i < p by omega) hlt (fun i h1 h2 => (unhide HSAME i (by omega) h2).symm))
          clear cf ch
          generalize f i = x at *
          generalize h i = y at *
          have hb2 : ((x : Int) != (y : Int)) = true := by rw [bne_iff_ne]; omega
          have hd2 : decide (y < x) = true := by simp; omega
          go_wp2_with fail
          go_region
          all_goals go_wp2_with fail
          go_region_with (go_at_call 78; refine (sign_yes _).mono ?_; rintro e w2 ⟨rfl, rfl⟩)
          all_goals go_wp2_with fail
          all_goals go_ret
          all_goals exact ⟨ret_int (by rw [unhide HE1, unhide HE2, cmpN_gt (unhide HF)]), by repeat (first | exact hbel | apply Below.drew)⟩
  · have hb : ((p : Int) != (q : Int)) = true := by rw [bne_iff_ne]; omega
    have hd : decide (q < p) = true := by simp; omega
    have HF := hide (can_lt (by decide) ch.1 cf hpq)
    clear cf ch
    go_wp2_with fail
    refine (sign_yes _).mono ?_
    rintro e w1 ⟨rfl, rfl⟩
    go_wp2_with fail
    go_ret
    exact ⟨ret_int (by rw [unhide HE1, unhide HE2, cmpN_gt (unhide HF)]), Below.refl _ _⟩

set_option maxHeartbeats 1000000 in
theorem sub_lt (v u : Value) (n m : Nat) (f h : Nat → Nat) (w : World) (hv : Sl .u32 w v n f) (hu : Sl .u32 w u m h) (hf : ∀ i, i < n → f i < 4294967296) (hh : ∀ i, i < m → h i < 4294967296)
    (hlt : num 4294967296 f n < num 4294967296 h m) :
    Calls Tryd.prog 45 #[v, u] w fun e w' => e = .returned (.tuple #[.slice none 0 0, .bool false]) ∧ Below w.heap.size w w' := by
  go_enter Tryd.func45, Tryd.ntmps45
  go_wp2_with fail
  refine (cmp_any _ _ _ _ f h _ hv hu hf hh).mono ?_
  rintro e w1 ⟨rfl, hb⟩
  rw [cmpN_lt hlt]
  go_wp2_with fail
  go_ret2
  exact ⟨rfl, hb⟩

/-- Taking a list from a whole block of limbs that is not below it. -/
theorem takeWhole (g N m capb : Nat) (f h : Nat → Nat) (bo : Option Addr) (w : World)
    (hrow : RowAt .u32 63 w g N N f) (hb : Rd .u32 w bo m h) (hsep : ∀ a, bo = some a → m ≠ 0 → a.block ≠ g) (hmn : m ≤ N) (hn : N ≤ 9223372036854775807)
    (hf : ∀ i, i < N → f i < 4294967296) (hh : ∀ i, i < m → h i < 4294967296) (hfit : num 4294967296 h m ≤ num 4294967296 f N) :
    Calls Tryd.prog 64 #[.slice (some ⟨g, 0, none⟩) N N, .slice bo m capb] w fun e w' => e = .returned (.tuple #[]) ∧ ∃ f', RowAt .u32 63 w' g N N f' ∧ Only g w w' ∧ (∀ i, i < N → f' i < 4294967296) ∧ num 4294967296 f' N + num 4294967296 h m = num 4294967296 f N := by
  refine (takeFrom_any g 0 N N N m N capb f h bo w hrow (by omega) hb hsep hmn hn (by simpa using hf) hh).mono ?_
  rintro e w' ⟨rfl, f', c, h1, h2, h3⟩
  obtain ⟨h4, h5, h6, h7⟩ := h3
  simp only [Nat.zero_add] at h6
  have e0 : ∀ q : Nat → Nat, (fun i => q (0 + i)) = q := fun q => by funext i; rw [Nat.zero_add]
  rw [num_cut hmn, e0, e0] at h7
  refine ⟨rfl, f', h1, h2, h6, ?_⟩
  have hlt := num_lt h6
  by_cases hc : c = 0
  · subst hc; omega
  · have : 1 * 4294967296 ^ N ≤ c * 4294967296 ^ N := Nat.mul_le_mul_right _ (by omega)
    omega

set_option maxHeartbeats 1000000 in
theorem sub_ge (v u : Value) (n m : Nat) (f h : Nat → Nat) (w : World) (hv : Sl .u32 w v n f) (hu : Sl .u32 w u m h) (hf : ∀ i, i < n → f i < 4294967296) (hh : ∀ i, i < m → h i < 4294967296)
    (hn : 4 * n ≤ 281474976710656) (hle : num 4294967296 h m ≤ num 4294967296 f n) :
    Calls Tryd.prog 45 #[v, u] w fun e w' => ∃ v' n' f', e = .returned (.tuple #[v', .bool true]) ∧ Own .u32 63 w' w.heap.size v' n' f' ∧ Below w.heap.size w w' ∧ Can 4294967296 f' n' ∧ n' ≤ n ∧
      num 4294967296 f' n' + num 4294967296 h m = num 4294967296 f n := by
  have hc0 : ¬ cmpN (num 4294967296 f n) (num 4294967296 h m) < 0 := by unfold cmpN; split <;> (try split) <;> omega
  obtain ⟨ao, cap, ev, h1, h2, h0, h3⟩ := id hv
  obtain ⟨bo, capb, eu, g1, g2, g0, g3⟩ := id hu
  subst ev eu
  go_enter Tryd.func45, Tryd.ntmps45
  go_wp2_with fail
  refine (cmp_any _ _ _ _ f h _ hv hu hf hh).mono ?_
  rintro e w1 ⟨rfl, hb1⟩
  generalize cmpN (num 4294967296 f n) (num 4294967296 h m) = cc at *
  clear hv hu h0 g0
  go_wp2_with fail
  refine (trim_any _ _ _ f _ (h3.below hb1 (Nat.le_refl _)) h1 h2).mono ?_
  rintro e w1 ⟨rfl, p, hp, rfl, zp, tp⟩
  go_wp2_with fail
  refine (clone_any _ _ _ f _ ((h3.below hb1 (Nat.le_refl _)).mono hp) (by omega)).mono ?_
  rintro e w2 ⟨rfl, hr2, hb2⟩
  have hb2' := hb1.trans (hb2.mono hb1.size)
  go_wp2_with fail
  refine (trim_any _ _ _ h _ (g3.below hb2' (Nat.le_refl _)) g1 g2).mono ?_
  rintro e w2 ⟨rfl, q, hq, rfl, zq, tq⟩
  have e1 := num_tail (B := 4294967296) hp zp
  have e2 := num_tail (B := 4294967296) hq zq
  have hqp : q ≤ p := by
    apply Nat.le_of_not_lt
    intro hl
    have := can_lt (B := 4294967296) (by decide) (fun i hi => hf i (Nat.lt_of_lt_of_le hi hp)) ⟨fun i hi => hh i (Nat.lt_of_lt_of_le hi hq), tq⟩ hl
    omega
  have sep := (g3.mono hq).apart hb1.size
  have hsz1 := hb1.size
  have HE1 := hide e1
  have HE2 := hide e2
  clear e1 e2 hb1
  go_wp2_with fail
  refine (takeWhole _ p _ _ f h _ _ hr2 ((g3.below hb2' (Nat.le_refl _)).mono hq) sep hqp (by omega) (fun i hi => hf i (by omega)) (fun i hi => hh i (by omega)) (by rw [← unhide HE1, ← unhide HE2]; exact hle)).mono ?_
  rintro e w3 ⟨rfl, f3, hr3, ho3, hd3, hs3⟩
  have hb3 := Only.below hb2' ho3 (by omega)
  have HS3 := hide hs3
  clear hs3 ho3 hr2 hb2
  go_wp2_with fail
  refine (trim_any _ _ _ f3 _ hr3.rd (Nat.le_refl _) (by omega)).mono ?_
  rintro e w3 ⟨rfl, r, hr, rfl, zr, tr⟩
  go_wp2_with fail
  go_ret2
  refine ⟨_, r, f3, rfl, (hr3.mono hr).own (by omega) (by omega), hb3, can_of_trim hd3 hr tr, by omega, ?_⟩
  rw [← num_tail hr zr, unhide HE1, unhide HE2]
  exact unhide HS3

set_option maxRecDepth 4000 in
set_option maxHeartbeats 1000000 in
theorem sameNum_any (a u : Value) (b c : Bool) (n m : Nat) (f g : Nat → Nat) (w : World) (ha : Nm w a b n f) (hu : Nm w u c m g) (hb : b = c) (hs : n = m ∧ ∀ i, i < n → f i = g i) :
    Calls Tryd.prog 8 #[a, u] w fun e w' => e = .returned (.bool true) ∧ Up w w' := by
  subst hb
  obtain ⟨v, rfl, hv⟩ := ha
  obtain ⟨v', rfl, hu⟩ := hu
  obtain ⟨ao, cap, rfl, -⟩ := id hv
  obtain ⟨ao', cap', rfl, -⟩ := id hu
  have HS := hide hs
  clear hs
  obtain ⟨h3, h1, h2⟩ := ((hv.up (below_alloc w (.cells #[.bool b, .slice ao n cap] 24))).up (below_alloc _ (.cells #[.bool b, .slice ao' m cap'] 24))).rd
  obtain ⟨g3, g1, g2⟩ := ((hu.up (below_alloc w (.cells #[.bool b, .slice ao n cap] 24))).up (below_alloc _ (.cells #[.bool b, .slice ao' m cap'] 24))).rd
  go_enter Tryd.func8, Tryd.ntmps8
  cases b <;>
  · go_wp2_with fail
    refine (same_any _ _ _ _ _ _ f g _ h3 g3 (by omega) (by omega) (unhide HS)).mono ?_
    rintro e w1 ⟨rfl, u1⟩
    go_wp2_with fail
    go_ret
    exact ⟨rfl, ((up_alloc w _).tr (up_alloc _ _)).tr u1⟩

set_option maxRecDepth 4000 in
set_option maxHeartbeats 1000000 in
theorem difference_any (v u : Value) (n m : Nat) (f h : Nat → Nat) (w : World) (hv : Sl .u32 w v n f) (hu : Sl .u32 w u m h) (hf : ∀ i, i < n → f i < 4294967296) (hh : ∀ i, i < m → h i < 4294967296) (hn : 4 * n ≤ 281474976710656) (hm : 4 * m ≤ 281474976710656) :
    Calls Tryd.prog 28 #[v, u] w fun e w' => ∃ a b k q, e = .returned a ∧ OwnW w' w.heap.size a b k q ∧ Up w w' ∧ CanZ b q k ∧ (k ≤ n ∨ k ≤ m) ∧ sgn b (num 4294967296 q k) = (num 4294967296 f n : Int) - num 4294967296 h m := by
  have hv' := hv.up (below_alloc w (.cells #[.slice none 0 0, .bool false] 40))
  have hu' := hu.up (below_alloc w (.cells #[.slice none 0 0, .bool false] 40))
  go_enter Tryd.func28, Tryd.ntmps28
  go_wp2_with fail
  by_cases hlt : num 4294967296 f n < num 4294967296 h m
  · have HLT := hide hlt
    clear hlt
    refine (sub_lt _ _ n m f h _ hv' hu' hf hh (unhide HLT)).mono ?_
    rintro e w1 ⟨rfl, u1⟩
    replace u1 : Up _ w1 := u1
    go_wp2_with fail
    refine (sub_ge _ _ m n h f _ (hu'.up u1) (hv'.up u1) hh hf hm (Nat.le_of_lt (unhide HLT))).mono ?_
    rintro e w2 ⟨v2, n2, f2, rfl, o2, u2, c2, l2, s2⟩
    replace u2 : Up w1 w2 := u2
    have HS2 := hide s2
    clear s2
    obtain ⟨ao2, cap2, rfl, -⟩ := id o2.sl
    go_wp2_with fail
    refine (numberOf_own w1.heap.size _ n2 f2 true _ o2 c2).mono ?_
    rintro e w3 ⟨a3, b3, rfl, o3, u3, c3, s3⟩
    have HS3 := hide s3
    clear s3
    obtain ⟨v3, rfl, o3⟩ := o3
    obtain ⟨ao3, cap3, rfl, -⟩ := id o3.sl
    obtain ⟨d0, d1, g0, g1, lt, e0, e1⟩ := res2 w.heap.size rfl ((u1.tr u2).tr u3)
    have hz1 : w.heap.size < w1.heap.size := by have := Below.size u1; simp at this; omega
    go_wp2_with fail
    refine bodyPost_ret (by simp [results, Tryd.results28, go_sem, e0, e1]; rfl) rfl ?_
    refine ⟨_, b3, n2, f2, rfl, ⟨_, rfl, (o3.set2 hz1).mono (by omega)⟩, Up.set2 ((up_alloc w _).tr ((u1.tr u2).tr u3)) (Nat.le_refl _), c3, .inr l2, ?_⟩
    have := unhide HS2
    rw [unhide HS3]
    simp only [sgn]
    simp
    omega
  · have HLT := hide hlt
    clear hlt
    refine (sub_ge _ _ n m f h _ hv' hu' hf hh hn (Nat.le_of_not_lt (unhide HLT))).mono ?_
    rintro e w2 ⟨v2, n2, f2, rfl, o2, u2, c2, l2, s2⟩
    replace u2 : Up _ w2 := u2
    have HS2 := hide s2
    clear s2
    obtain ⟨ao2, cap2, rfl, -⟩ := id o2.sl
    go_wp2_with fail
    refine (numberOf_own (w.heap.size + 1) _ n2 f2 false _ (o2.mono (by simp)) c2).mono ?_
    rintro e w3 ⟨a3, b3, rfl, o3, u3, c3, s3⟩
    have HS3 := hide s3
    clear s3
    obtain ⟨v3, rfl, o3⟩ := o3
    obtain ⟨ao3, cap3, rfl, -⟩ := id o3.sl
    obtain ⟨d0, d1, g0, g1, lt, e0, e1⟩ := res2 w.heap.size rfl (u2.tr u3)
    go_wp2_with fail
    refine bodyPost_ret (by simp [results, Tryd.results28, go_sem, e0, e1]; rfl) rfl ?_
    refine ⟨_, b3, n2, f2, rfl, ⟨_, rfl, (o3.set2 (by omega)).mono (by omega)⟩, Up.set2 ((up_alloc w _).tr (u2.tr u3)) (Nat.le_refl _), c3, .inl l2, ?_⟩
    have := unhide HS2
    rw [unhide HS3]
    simp only [sgn]
    simp
    omega

theorem Lsts.push {w : World} {M k n : Nat} {va : Nat → Value} {na : Nat → Nat} {fa : Nat → Nat → Nat} {v : Value} {f : Nat → Nat} (h : Lsts w M k va na fa) (hv : Sl .u32 w v n f) (hd : ∀ i, i < n → f i < 4294967296) (hn : n ≤ M) :
    Lsts w M (k + 1) (updA va k v) (updA na k n) (updA fa k f) := by
  intro j hj
  by_cases e : j = k
  · subst e
    rw [updA_same, updA_same, updA_same]
    exact ⟨hv, hd, hn⟩
  · rw [updA_other e, updA_other e, updA_other e]
    exact h j (by omega)

theorem ownsRow_up {w w' : World} {base : Nat} {E : TypeId} {size : Nat} {v : Value} {n : Nat} {xs : List Value} (h : w.ownsRow base E size v n xs) (u : Up w w') : w'.ownsRow base E size v n xs :=
  h.kept (row := none) ⟨u.os, u.tape, u.output, u.size, fun k hk _ => u.block k hk⟩ (by
    cases hv : v.ownBlock with
    | none => exact .inl rfl
    | some g => exact .inr (by simp))

theorem total_congr {na na' : Nat → Nat} {fa fa' : Nat → Nat → Nat} {k : Nat} (h : ∀ j, j < k → na j = na' j ∧ fa j = fa' j) : total na fa k = total na' fa' k := by
  induction k with
  | zero => rfl
  | succ k ih =>
    show total na fa k + _ = total na' fa' k + _
    rw [ih (fun j hj => h j (by omega)), (h k (by omega)).1, (h k (by omega)).2]

theorem total_push {na : Nat → Nat} {fa : Nat → Nat → Nat} {k n : Nat} {f : Nat → Nat} : total (updA na k n) (updA fa k f) (k + 1) = total na fa k + num 4294967296 f n := by
  show total (updA na k n) (updA fa k f) k + num 4294967296 (updA fa k f k) (updA na k n k) = _
  rw [updA_same, updA_same, total_congr (na' := na) (fa' := fa) (fun j hj => ⟨updA_other (by omega), updA_other (by omega)⟩)]

theorem valsOf_push (va : Nat → Value) (k : Nat) (v : Value) : valsOf va k ++ [v] = valsOf (updA va k v) (k + 1) := by
  apply List.ext_getElem?
  intro i
  rcases Nat.lt_trichotomy i k with h | h | h
  · rw [List.getElem?_append_left (by rw [valsOf_length]; exact h), valsOf_get _ _ _ h, valsOf_get _ _ _ (by omega), updA_other (by omega)]
  · subst h
    rw [List.getElem?_append_right (by rw [valsOf_length]; exact Nat.le_refl _), valsOf_length, valsOf_get _ _ _ (by omega), updA_same]
    simp
  · rw [List.getElem?_eq_none (by rw [List.length_append, valsOf_length]; simp; omega), List.getElem?_eq_none (by rw [valsOf_length]; omega)]

set_option maxRecDepth 4000 in
set_option maxHeartbeats 1000000 in
theorem total_any (base : Nat) (v : Value) (k M : Nat) (va : Nat → Value) (na : Nat → Nat) (fa : Nat → Nat → Nat) (w : World) (hrow : w.ownsRow base 22 1 v k (valsOf va k)) (hl : Lsts w M k va na fa) (hM : 4 * (M + 1) ≤ 281474976710656) (hk : k + 2 ≤ 4294967296) :
    Calls Tryd.prog 29 #[v] w fun e w' => ∃ v' n' f', e = .returned v' ∧ Own .u32 63 w' w.heap.size v' n' f' ∧ Up w w' ∧ Can 4294967296 f' n' ∧ n' ≤ M + 1 ∧ num 4294967296 f' n' = total na fa k := by
  obtain ⟨mo, cap, rfl, hmo, hr⟩ := Rds.of_row hrow
  have hnil : Sl .u32 w (.slice none 0 0) 0 (fun _ => 0) := ⟨none, 0, rfl, Nat.le_refl _, by omega, fun _ => rfl, .inl rfl⟩
  clear hrow
  go_enter Tryd.func29, Tryd.ntmps29
  go_wp2_with fail
  refine (add_any _ _ 0 0 k cap M (fun _ => 0) (fun _ => 0) mo va na fa w hnil hnil hr (fun i hi => (hl i hi).1) (fun i hi => by omega) (fun i hi => by omega) (fun i hi => (hl i hi).2.1) (by omega) (by omega) (fun i hi => (hl i hi).2.2) hM hk).mono ?_
  rintro e w1 ⟨v1, n1, f1, rfl, o1, u1, c1, l1, s1⟩
  have HS := hide s1
  clear s1
  go_wp2_with fail
  go_ret
  exact ⟨v1, n1, f1, rfl, o1, u1, c1, l1, by rw [unhide HS]; simp [num]⟩

/-- k numbers that are worked at, read from an address on. -/
def RdW (w : World) (mo : Option Addr) (k : Nat) (vs : Nat → Value) (bs : Nat → Bool) : Prop :=
  k = 0 ∨ ∃ b off, mo = some ⟨b, off, none⟩ ∧ ∀ i, i < k → w.cell? ⟨b, off + i * 2, none⟩ = some (vs i) ∧ w.cell? ⟨b, off + i * 2 + 1, none⟩ = some (.bool (bs i))

/-- The sum of whole numbers. -/
def sumZ (g : Nat → Int) : Nat → Int
  | 0 => 0
  | k + 1 => sumZ g k + g k

def Sep (a b : Value) : Prop := ∀ g, a.ownBlock = some g → b.ownBlock ≠ some g

theorem sep_nil : Sep (.slice none 0 0) (.slice none 0 0) := fun g h => by cases h

theorem cells_at {w : World} {g : Nat} (a : Value) (E : TypeId) (hg : g = w.heap.size) : ∀ j u, [a][j]? = some u → (w.alloc (.cells #[a] E)).cell? ((⟨g, 0, none⟩ : Addr).add j) = some u := by
  subst hg
  exact cells_one w a E

theorem one_slice (ao : Option Addr) (n cap : Nat) : ∀ u ∈ [Value.slice ao n cap], u.oneCell' = true := by
  intro u hu
  simp only [List.mem_cons, List.not_mem_nil, or_false] at hu
  subst hu
  rfl

theorem Sep.comm {a b : Value} (h : Sep a b) : Sep b a := fun g h1 h2 => h g h2 h1

theorem Sep.kept {a b : Value} (h : Sep a b) : b.ownBlock = none ∨ b.ownBlock ≠ a.ownBlock := by
  cases hb : b.ownBlock with
  | none => exact .inl rfl
  | some g => exact .inr (fun e => h g e.symm hb)

theorem Sep.push {a a' b : Value} {N : Nat} (h : Sep a b) (ha : a'.ownBlock = a.ownBlock ∨ a'.ownBlock = some N) (hb : ∀ g, b.ownBlock = some g → g < N) : Sep a' b := by
  intro g h1 h2
  rcases ha with e | e
  · exact h g (e ▸ h1) h2
  · rw [e] at h1
    cases h1
    exact absurd (hb _ h2) (by omega)

set_option maxRecDepth 4000 in
set_option maxHeartbeats 2000000 in
theorem sum_any (mo : Option Addr) (k capm M : Nat) (vs : Nat → Value) (bs : Nat → Bool) (ns : Nat → Nat) (fs : Nat → Nat → Nat) (w : World) (hm : RdW w mo k vs bs) (hl : Lsts w M k vs ns fs) (hcap : k ≤ capm) (hM : 4 * (M + 1) ≤ 281474976710656) (hk : k + 2 ≤ 4294967296) :
    Calls Tryd.prog 16 #[.slice mo k capm] w fun e w' => ∃ a b n f, e = .returned a ∧ OwnW w' w.heap.size a b n f ∧ Up w w' ∧ CanZ b f n ∧ n ≤ M + 1 ∧ sgn b (num 4294967296 f n) = sumZ (fun i => sgn (bs i) (num 4294967296 (fs i) (ns i))) k := by
  obtain ⟨i, hi, hz0, hz1, hz2⟩ := info_parts infoS
  have HL := hide hl
  clear hl
  go_enter Tryd.func16, Tryd.ntmps16
  go_wp2_with fail
  go_loopw [3, 4, 9] (fun t3 t4 t9 wr => ∃ (j kA kB : Nat) (va vb : Nat → Value) (na nb : Nat → Nat) (fa fb : Nat → Nat → Nat), j ≤ k ∧ t9 = .int .i64 j ∧ wr.ownsRow (w.heap.size + 1) 22 1 t3 kA (valsOf va kA) ∧ wr.ownsRow (w.heap.size + 1) 22 1 t4 kB (valsOf vb kB) ∧ Sep t3 t4 ∧ kA + kB = j ∧
    Up (w.alloc (.cells #[.slice none 0 0, .bool false] 40)) wr ∧ Hid (Lsts w M kA va na fa ∧ Lsts w M kB vb nb fb ∧ (total na fa kA : Int) - total nb fb kB = sumZ (fun i => sgn (bs i) (num 4294967296 (fs i) (ns i))) j)) (fun _ _ t9 _ => k - (intOf t9).toNat)
  case atStart => exact ⟨0, 0, 0, fun _ => .slice none 0 0, fun _ => .slice none 0 0, fun _ => 0, fun _ => 0, fun _ _ => 0, fun _ _ => 0, Nat.zero_le _, rfl, World.ownsRow_nil _ _ _ _, World.ownsRow_nil _ _ _ _, sep_nil, rfl, Up.refl _, hide ⟨fun j hj => by omega, fun j hj => by omega, rfl⟩⟩
  case round =>
    obtain ⟨j, kA, kB, va, vb, na, nb, fa, fb, hj, rfl, rA, rB, sep, hkk, up, HH⟩ := hrel
    have hsz := Below.size up
    simp at hsz
    by_cases hjk : j < k
    · rcases hm with hm | ⟨b, off, rfl, hc⟩
      · omega
      obtain ⟨sj, dj, nj⟩ := unhide HL j hjk
      obtain ⟨aoj, capj, ej, -⟩ := id sj
      have hx0 := (hc j hjk).1
      have hx1 := (hc j hjk).2
      have hbl : b < w.heap.size := World.block_lt_of_cell? w _ hx0
      rw [ej] at hx0 sj
      have hc0 : wr.cell? ⟨b, off + j * 2, none⟩ = some (.slice aoj (ns j) capj) := (Below.cell up (p := ⟨b, off + j * 2, none⟩) (by show b < _; simp; omega)).trans ((Below.cell (up_alloc w _) (p := ⟨b, off + j * 2, none⟩) hbl).trans hx0)
      have hc1 : wr.cell? ⟨b, off + j * 2 + 1, none⟩ = some (.bool (bs j)) := (Below.cell up (p := ⟨b, off + j * 2 + 1, none⟩) (by show b < _; simp; omega)).trans ((Below.cell (up_alloc w _) (p := ⟨b, off + j * 2 + 1, none⟩) hbl).trans hx1)
      have HSJ := hide (And.intro sj (And.intro dj nj))
      clear hc hx0 hx1 ej sj dj nj
      generalize hnj : ns j = n at *
      have HNJ := hide hnj
      clear hnj
      cases hbj : bs j
      · rw [hbj] at hc1
        go_wp2_with (at_builtin; refine wpList_append_own_at _ rfl _ _ 64 rfl (w.heap.size + 1) 22 i (.slice none 0 0) 1 24 Tryd.underlying64 hi hz0 hz1 hz2 rfl (by decide) _ _ _ rfl ((rA.alloc _).alloc _) ⟨wr.heap.size + 1, 0, none⟩ 1 1 [.slice aoj n capj] rfl rfl (cells_at _ _ (by simp)) (one_slice _ _ _) (by unfold maxLen; omega) (by omega) (by simp; omega) ?_; intro v4 w4 hown4 hgrow4 hx4 hat4)
        rw [valsOf_push] at hown4
        have rB4 := ((rB.alloc _).alloc _).kept hgrow4 sep.kept
        have sep4 : Sep v4 u4 := sep.push hat4 (fun g hg => by have := (rB.lt g hg).2; simp; omega)
        have up4 : Up (w.alloc (.cells #[.slice none 0 0, .bool false] 40)) w4 := (Below.alloc (Below.alloc up (Below.size up) _) (by have := Below.size up; simp at this ⊢; omega) _).grown hgrow4 (by simp; omega) (fun g hg => by have := (rA.lt g hg).1; simp; omega)
        clear hgrow4 hx4 hat4 rA rB sep up
        go_roundw
        case rel =>
          obtain ⟨sj, dj, nj⟩ := unhide HSJ
          obtain ⟨lA, lB, hs⟩ := unhide HH
          refine ⟨j + 1, kA + 1, kB, _, vb, _, nb, _, fb, by omega, by go_num, hown4, rB4, sep4, by omega, up4, hide ⟨lA.push sj dj nj, lB, ?_⟩⟩
          rw [total_push]
          show _ = sumZ _ j + sgn (bs j) (num 4294967296 (fs j) (ns j))
          rw [← hs, hbj, unhide HNJ]
          simp only [sgn]
          simp
          omega
        case measure => simp [intOf]; omega
      · rw [hbj] at hc1
        go_wp2_with (at_builtin; refine wpList_append_own_at _ rfl _ _ 64 rfl (w.heap.size + 1) 22 i (.slice none 0 0) 1 24 Tryd.underlying64 hi hz0 hz1 hz2 rfl (by decide) _ _ _ rfl ((rB.alloc _).alloc _) ⟨wr.heap.size + 1, 0, none⟩ 1 1 [.slice aoj n capj] rfl rfl (cells_at _ _ (by simp)) (one_slice _ _ _) (by unfold maxLen; omega) (by omega) (by simp; omega) ?_; intro v4 w4 hown4 hgrow4 hx4 hat4)
        rw [valsOf_push] at hown4
        have rA4 := ((rA.alloc _).alloc _).kept hgrow4 sep.comm.kept
        have sep4 : Sep u3 v4 := (sep.comm.push hat4 (fun g hg => by have := (rA.lt g hg).2; simp; omega)).comm
        have up4 : Up (w.alloc (.cells #[.slice none 0 0, .bool false] 40)) w4 := (Below.alloc (Below.alloc up (Below.size up) _) (by have := Below.size up; simp at this ⊢; omega) _).grown hgrow4 (by simp; omega) (fun g hg => by have := (rB.lt g hg).1; simp; omega)
        clear hgrow4 hx4 hat4 rA rB sep up
        go_roundw
        case rel =>
          obtain ⟨sj, dj, nj⟩ := unhide HSJ
          obtain ⟨lA, lB, hs⟩ := unhide HH
          refine ⟨j + 1, kA, kB + 1, va, _, na, _, fa, _, by omega, by go_num, rA4, hown4, sep4, by omega, up4, hide ⟨lA, lB.push sj dj nj, ?_⟩⟩
          rw [total_push]
          show _ = sumZ _ j + sgn (bs j) (num 4294967296 (fs j) (ns j))
          rw [← hs, hbj, unhide HNJ]
          simp only [sgn]
          simp
          omega
        case measure => simp [intOf]; omega
    · obtain rfl : j = k := by omega
      obtain ⟨lA, lB, hs⟩ := unhide HH
      have HS := hide hs
      have HA := hide lA
      have HB := hide lB
      have hupw : Up w wr := (up_alloc w _).tr up
      clear hs lA lB HH hm
      go_wp2_with fail
      refine (total_any (w.heap.size + 1) _ kA M va na fa _ rA ((unhide HA).up hupw) hM (by omega)).mono ?_
      rintro e w1 ⟨v1, n1, f1, rfl, o1, u1, c1, l1, s1⟩
      have S1 := hide s1
      clear s1
      go_wp2_with fail
      have rB1 : w1.ownsRow (w.heap.size + 1) 22 1 u4 kB (valsOf vb kB) := ownsRow_up rB u1
      refine (total_any (w.heap.size + 1) _ kB M vb nb fb _ rB1 ((unhide HB).up (hupw.tr u1)) hM (by omega)).mono ?_
      rintro e w2 ⟨v2, n2, f2, rfl, o2, u2, c2, l2, s2⟩
      have S2 := hide s2
      clear s2
      go_wp2_with fail
      refine (difference_any _ _ n1 n2 f1 f2 _ (o1.sl.up u2) o2.sl c1.1 c2.1 (by omega) (by omega)).mono ?_
      rintro e w3 ⟨a3, b3, n3, f3, rfl, o3, u3', c3, l3, s3⟩
      have S3 := hide s3
      clear s3
      obtain ⟨v3, rfl, o3⟩ := o3
      obtain ⟨ao3, cap3, rfl, -⟩ := id o3.sl
      obtain ⟨d0, d1, g0, g1, lt, e0, e1⟩ := res2 w.heap.size rfl (((up.tr u1).tr u2).tr u3')
      have hz2' : w.heap.size < w2.heap.size := by have h1 := Below.size u1; have h2 := Below.size u2; omega
      go_wp2_with fail
      refine bodyPost_ret (by simp [results, Tryd.results16, go_sem, e0, e1]; rfl) rfl ?_
      refine ⟨_, b3, n3, f3, rfl, ⟨_, rfl, (o3.set2 hz2').mono (by omega)⟩, Up.set2 (((hupw.tr u1).tr u2).tr u3') (Nat.le_refl _), c3, by omega, ?_⟩
      rw [unhide S3, unhide S1, unhide S2, unhide HS]

/-- k numbers, read from an address on. -/
def RdN (w : World) (mo : Option Addr) (k : Nat) (vs : Nat → Value) (bs : Nat → Bool) : Prop :=
  k = 0 ∨ ∃ b off, mo = some ⟨b, off, none⟩ ∧ ∀ i, i < k → w.cell? ⟨b, off + i * 2, none⟩ = some (.bool (bs i)) ∧ w.cell? ⟨b, off + i * 2 + 1, none⟩ = some (vs i)

theorem infoW : (Tryd.prog.info? 40).map (fun i => (i.zero, i.size, i.bytes)) = some (some (.agg #[.slice none 0 0, .bool false]), 2, 32) := by kernel_rfl

/-- make([]number, n): a block of its own. -/
theorem wpList_mkW {w : World} {ops : Array Oper} {rest : List Oper} {o : Oper} {a : Act} {Q : Exit → Act → World → Prop}
    (hg : o.guard = none) (l c : Operand) (hop : o.op = Op.makeSlice 56 l c)
    (kl kc : IntKind) (L C : Int) (n : Nat) (hl : a.eval l = .int kl L) (hc : a.eval c = .int kc C) (hL : L = (n : Int)) (hC : C = (n : Int)) (b2 : 32 * n ≤ 281474976710656)
    (hK : ∀ w' d, RowV 40 w' w.heap.size (n * 2) d → Up w w' → wpList Tryd.prog ops Q rest (a.put o.dst (.slice (some ⟨w.heap.size, 0, none⟩) n n)) w') :
    wpList Tryd.prog ops Q (o :: rest) a w := by
  obtain ⟨i, hi, hz0, hz1, hz2⟩ := info_parts infoW
  have hrun := run_make (P := Tryd.prog) w 56 40 i _ Tryd.underlying56 hi hz0 kl kc n n (by omega) (by omega) (by rw [hz2]; omega) (by omega)
  simp only [Int.toNat_natCast, hz1] at hrun
  subst hL hC
  refine wpList_plain hg fun K hK' => ?_
  unfold Oper.wp
  simp [execOp, hop, hl, hc, hrun, Result.andThen]
  refine hK' _ _ (hK _ (fun i => ((madeCells (Value.agg #[.slice none 0 0, .bool false]).cells (n * 2))[i]?).getD undef) ⟨_, heap_alloc_new w _, size_madeCells _ _, fun i hi => ?_⟩ (up_alloc w _))
  have h : i < (madeCells (Value.agg #[.slice none 0 0, .bool false]).cells (n * 2)).size := by rw [size_madeCells]; exact hi
  simp only []
  rw [Array.getElem?_eq_getElem h, Option.getD_some]

theorem sumZ_congr {g h : Nat → Int} {k : Nat} (e : ∀ i, i < k → g i = h i) : sumZ g k = sumZ h k := by
  induction k with
  | zero => rfl
  | succ k ih =>
    show sumZ g k + g k = sumZ h k + h k
    rw [ih (fun i hi => e i (by omega)), e k (by omega)]

theorem Up.set2' {w w1 : World} {g i j : Nat} {x y : Value} (u : Up w w1) (hg : w.heap.size ≤ g) : Up w ((w1.setCell ⟨g, i, none⟩ x).setCell ⟨g, j, none⟩ y) :=
  Below.setCell (p := ⟨g, j, none⟩) (Below.setCell (p := ⟨g, i, none⟩) u hg x) hg y

set_option maxRecDepth 4000 in
set_option maxHeartbeats 2000000 in
theorem workAll_any (mo : Option Addr) (k capm M : Nat) (vs : Nat → Value) (bs : Nat → Bool) (ns : Nat → Nat) (fs : Nat → Nat → Nat) (w : World) (hm : RdN w mo k vs bs) (hl : Lsts w M k vs ns fs) (hk : 32 * k ≤ 281474976710656) :
    Calls Tryd.prog 17 #[.slice mo k capm] w fun e w' => ∃ (mo' : Option Addr) (cap' : Nat) (vs' : Nat → Value) (bs' : Nat → Bool) (ms : Nat → Nat), e = .returned (.slice mo' k cap') ∧ k ≤ cap' ∧ RdW w' mo' k vs' bs' ∧ Lsts w M k vs' ms fs ∧ Up w w' ∧
      ∀ i, i < k → CanZ (bs' i) (fs i) (ms i) ∧ ms i ≤ ns i ∧ sgn (bs' i) (num 4294967296 (fs i) (ms i)) = sgn (bs i) (num 4294967296 (fs i) (ns i)) := by
  have HL := hide hl
  clear hl
  go_enter Tryd.func17, Tryd.ntmps17
  go_wp2_with (at_make; refine wpList_mkW rfl _ _ rfl .i64 .i64 _ _ k rfl rfl rfl rfl hk ?_; intro w1 d1 r1 u1)
  go_loopw [11] (fun t11 wr => ∃ (j : Nat) (c : Nat → Value) (vs' : Nat → Value) (bs' : Nat → Bool) (ms : Nat → Nat), j ≤ k ∧ t11 = .int .i64 j ∧ RowV 40 wr w.heap.size (k * 2) c ∧ Up w wr ∧
    Hid (∀ i, i < j → c (i * 2) = vs' i ∧ c (i * 2 + 1) = .bool (bs' i) ∧ Sl .u32 w (vs' i) (ms i) (fs i) ∧ CanZ (bs' i) (fs i) (ms i) ∧ ms i ≤ ns i ∧ sgn (bs' i) (num 4294967296 (fs i) (ms i)) = sgn (bs i) (num 4294967296 (fs i) (ns i)))) (fun t11 _ => k - (intOf t11).toNat)
  case atStart => exact ⟨0, d1, fun _ => .slice none 0 0, fun _ => false, fun _ => 0, Nat.zero_le _, rfl, r1, u1, hide (fun i hi => by omega)⟩
  case round =>
    obtain ⟨j, c, vs', bs', ms, hj, rfl, r, u, HH⟩ := hrel
    clear r1 u1
    have hszr := Below.size u
    have hltr := r.lt
    by_cases hjk : j < k
    · rcases hm with hm | ⟨b, off, rfl, hc⟩
      · omega
      obtain ⟨sj, dj, nj⟩ := unhide HL j hjk
      obtain ⟨aoj, capj, ej, -⟩ := id sj
      have hx0 := (hc j hjk).1
      have hx1 := (hc j hjk).2
      have hbl : b < w.heap.size := World.block_lt_of_cell? w _ hx0
      rw [ej] at hx1 sj
      have hc0 : wr.cell? ⟨b, off + j * 2, none⟩ = some (.bool (bs j)) := (Below.cell u (p := ⟨b, off + j * 2, none⟩) hbl).trans hx0
      have hc1 : wr.cell? ⟨b, off + j * 2 + 1, none⟩ = some (.slice aoj (ns j) capj) := (Below.cell u (p := ⟨b, off + j * 2 + 1, none⟩) hbl).trans hx1
      have HSJ := hide (And.intro sj (And.intro dj nj))
      clear hc hx0 hx1 ej sj dj nj
      generalize hnj : ns j = n at *
      generalize hbj : bs j = bj at *
      have HNJ := hide (And.intro hnj hbj)
      clear hnj hbj
      go_wp2_with fail
      refine (work_any _ bj n (fs j) _ ⟨_, rfl, ((unhide HSJ).1.up u).up (up_alloc _ _)⟩ (unhide HSJ).2.1).mono ?_
      rintro e w2 ⟨a2, b2, m2, rfl, hw2, u2, c2, l2, s2⟩
      obtain ⟨v2, rfl, sv2⟩ := hw2 w ⟨_, rfl, (unhide HSJ).1⟩
      obtain ⟨ao2, cap2, rfl, -⟩ := id sv2
      have HS2 := hide (And.intro sv2 (And.intro c2 (And.intro l2 s2)))
      have r2 := (r.up (up_alloc _ _)).up u2
      have u2' : Up w w2 := (u.tr (up_alloc _ _)).tr u2
      have hy0 := r2.cell (i := j * 2) (by omega)
      have hy1 := r2.cell (i := j * 2 + 1) (by omega)
      have hf0 := r2.free (j * 2)
      have hf1 := r2.free (j * 2 + 1)
      have HR := hide r2
      have HU := hide u2'
      clear sv2 c2 l2 s2 r2 u2' r u u2 hw2
      go_wp2_with fail
      go_roundw
      case rel =>
        refine ⟨j + 1, _, updA vs' j (.slice ao2 m2 cap2), updA bs' j b2, updA ms j m2, by omega, by go_num, ((unhide HR).set (by omega) _).set (by omega) _, Up.set2' (unhide HU) (Nat.le_refl _), hide (fun i hi => ?_)⟩
        obtain ⟨sv2, c2, l2, s2⟩ := unhide HS2
        obtain ⟨e1, e2⟩ := unhide HNJ
        by_cases e : i = j
        · subst e
          rw [updA_same, updA_same, updA_same, updA_other (by omega), updA_same, updA_same, e1, e2]
          exact ⟨rfl, rfl, sv2, c2, l2, s2⟩
        · rw [updA_other e, updA_other e, updA_other e, updA_other (by omega), updA_other (by omega), updA_other (by omega), updA_other (by omega)]
          exact unhide HH i (by omega)
      case measure => simp [intOf]; omega
    · obtain rfl : j = k := by omega
      have HR := hide r
      have HU := hide u
      clear r u
      go_wp2_with fail
      go_ret
      have H := unhide HH
      refine ⟨_, _, vs', bs', ms, rfl, Nat.le_refl _, .inr ⟨_, 0, rfl, fun i hi => ?_⟩, fun i hi => ⟨(H i hi).2.2.1, (H i hi).2.2.2.1.1.1, ?_⟩, unhide HU, fun i hi => (H i hi).2.2.2⟩
      · rw [Nat.zero_add, (unhide HR).cell (i := i * 2) (by omega), (unhide HR).cell (i := i * 2 + 1) (by omega), (H i hi).1, (H i hi).2.1]
        exact ⟨rfl, rfl⟩
      · exact Nat.le_trans (H i hi).2.2.2.2.1 (unhide HL i hi).2.2

set_option maxRecDepth 4000 in
set_option maxHeartbeats 1000000 in
theorem addz_any (mo : Option Addr) (k capm M : Nat) (vs : Nat → Value) (bs : Nat → Bool) (ns : Nat → Nat) (fs : Nat → Nat → Nat) (w : World) (hm : RdN w mo k vs bs) (hl : Lsts w M k vs ns fs) (hM : 4 * (M + 1) ≤ 281474976710656) (hk : k + 2 ≤ 4294967296) :
    Calls Tryd.prog 9 #[.slice mo k capm] w fun e w' => ∃ a b n f, e = .returned a ∧ OwnN w' w.heap.size a b n f ∧ Up w w' ∧ CanZ b f n ∧ n ≤ M + 1 ∧ sgn b (num 4294967296 f n) = sumZ (fun i => sgn (bs i) (num 4294967296 (fs i) (ns i))) k := by
  have hm' : RdN (w.alloc (.cells #[.bool false, .slice none 0 0] 24)) mo k vs bs := by
    rcases hm with h | ⟨b, off, rfl, hc⟩
    · exact .inl h
    · by_cases h0 : k = 0
      · exact .inl h0
      · have hb : b < w.heap.size := World.block_lt_of_cell? w _ (hc 0 (by omega)).1
        exact .inr ⟨b, off, rfl, fun i hi => ⟨(Below.cell (up_alloc w _) (p := ⟨b, off + i * 2, none⟩) hb).trans (hc i hi).1, (Below.cell (up_alloc w _) (p := ⟨b, off + i * 2 + 1, none⟩) hb).trans (hc i hi).2⟩⟩
  have HL := hide hl
  clear hl hm
  go_enter Tryd.func9, Tryd.ntmps9
  go_wp2_with fail
  refine (workAll_any mo k capm M vs bs ns fs _ hm' ((unhide HL).up (up_alloc w _)) (by omega)).mono ?_
  rintro e w1 ⟨mo1, cap1, vs1, bs1, ms1, rfl, hcap1, rw1, l1, u1, hs1⟩
  have HS1 := hide hs1
  clear hs1 hm'
  go_wp2_with fail
  refine (sum_any mo1 k cap1 M vs1 bs1 ms1 fs _ rw1 (l1.up u1) hcap1 hM hk).mono ?_
  rintro e w2 ⟨a2, b2, n2, f2, rfl, o2, u2, c2, l2, s2⟩
  have HS2 := hide s2
  clear s2
  obtain ⟨v2, rfl, o2⟩ := o2
  obtain ⟨ao2, cap2, rfl, -⟩ := id o2.sl
  go_wp2_with fail
  refine (answer_any _ b2 n2 f2 _ ⟨_, rfl, o2.sl⟩).mono ?_
  rintro e w3 ⟨a3, rfl, h3, u3⟩
  obtain rfl := h3 _ rfl
  obtain ⟨d0, d1, g0, g1, lt, e0, e1⟩ := res2 w.heap.size rfl ((u1.tr u2).tr u3)
  have hz : w.heap.size < w1.heap.size := by have := Below.size u1; simp at this; omega
  go_wp2_with fail
  refine bodyPost_ret (by simp [results, Tryd.results9, go_sem, e0, e1]; rfl) rfl ?_
  refine ⟨_, b2, n2, f2, rfl, ⟨_, rfl, ((o2.up u3).set2 hz).mono (by omega)⟩, Up.set2 ((up_alloc w _).tr ((u1.tr u2).tr u3)) (Nat.le_refl _), c2, l2, ?_⟩
  rw [unhide HS2]
  exact sumZ_congr (fun i hi => (unhide HS1 i hi).2.2)

theorem add1_rd {g : Nat} {b1 : Bool} {v1 : Value} {E : TypeId} {X : Int} {M : Nat} {w : World} (hg : w.heap[g]? = some (.cells #[.bool b1, v1] E (0, 0))) (h : RdD X M w (.agg #[.bool b1, v1])) (hM : 4 * (M + 1) ≤ 281474976710656) :
    Calls Tryd.prog 9 #[.slice (some ⟨g, 0, none⟩) 1 1] w fun e w' => ∃ v, e = .returned v ∧ NumIn X (M + 1) w' w.heap.size w'.heap.size v ∧ Up w w' := by
  obtain ⟨b, n, f, ⟨v, e, hn⟩, d, l, s⟩ := h
  cases e
  have hr : RdN w (some ⟨g, 0, none⟩) 1 (fun _ => v1) (fun _ => b1) := by
    refine .inr ⟨g, 0, rfl, fun i hi => ?_⟩
    rw [cell_of_row _ _ _ _ _ _ hg, cell_of_row _ _ _ _ _ _ hg]
    match i, hi with
    | 0, _ => exact ⟨rfl, rfl⟩
  refine (addz_any _ 1 1 M (fun _ => v1) (fun _ => b1) (fun _ => n) (fun _ => f) _ hr (fun j hj => ⟨hn, d, l⟩) hM (by decide)).mono ?_
  rintro e w' ⟨a, b, n, f, rfl, o, u, c, l, s'⟩
  refine ⟨a, rfl, ⟨b, n, f, CopIn.of o, c, l, ?_⟩, u⟩
  rw [s', ← s]
  simp [sumZ]

end Go.Proofs.YteipogfolnlblaaDoor
