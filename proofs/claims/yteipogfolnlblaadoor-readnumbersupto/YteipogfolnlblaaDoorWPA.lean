/-
  What is proved here: math/bits' words; nat.Parse; num.Parse of a sign or none and decimal digits. (Out of the texts Words, Parse, NBase, NSum, NParse by tools/shake.py.)
-/
import Derived.Test.YteipogfolnlblaaDoorWQC
import Derived.Test.YteipogfolnlblaaDoorProg
import Derived.Test.YteipogfolnlblaaDoorBase
import Derived.WalkLawsBesides
import Derived.Laws.BitsAllLaws
import Derived.Laws.CopyOwn
import Derived.Laws.AppendOwnNone
import Derived.Lib.Strings
import Derived.Lib.AppendStr
import Derived.Laws.IdiomStrings
import Derived.Deep.RegionWith
import Derived.Deep.QuietTactic
import Derived.BigQuiet
import Derived.Handy
import Derived.Maps.AppendAt
import Derived.Shelf.Strconv.AppendInt10
import Derived.Ground.NamesProg
import Derived.Test.YteipogfolnlblaaDoorRows
import Derived.Laws.MathBits
import Derived.Deep.RegionHeld3
import Derived.Orders
import Derived.Laws.World
namespace Go.Proofs.YteipogfolnlblaaDoor
open Go Go.RowKit
set_option maxHeartbeats 400000 in
theorem add32_any (x y c : Nat) (w : World) (hx : x < 4294967296) (hy : y < 4294967296) (hc : c ≤ 1) :
    Calls Tryd.prog 91 #[.int .u32 x, .int .u32 y, .int .u32 c] w fun e w' => e = .returned (.tuple #[.int .u32 ((x + y + c) % 4294967296 : Nat), .int .u32 ((x + y + c) / 4294967296 : Nat)]) ∧ w' = w := by
  go_enter Tryd.func91, Tryd.ntmps91
  go_wp2
  go_ret2
  refine ⟨ret2 ?_ ?_, rfl⟩
  · omega
  · omega

theorem prod_lt {x y a b : Nat} (hx : x < a) (hy : y < b) : x * y ≤ (a - 1) * (b - 1) := Nat.mul_le_mul (by omega) (by omega)

set_option maxHeartbeats 400000 in
theorem mul32_any (x y : Nat) (w : World) (hx : x < 4294967296) (hy : y < 4294967296) :
    Calls Tryd.prog 94 #[.int .u32 x, .int .u32 y] w fun e w' => e = .returned (.tuple #[.int .u32 ((x * y) / 4294967296 : Nat), .int .u32 ((x * y) % 4294967296 : Nat)]) ∧ w' = w := by
  go_enter Tryd.func94, Tryd.ntmps94
  go_wp2
  go_ret2
  have hp := prod_lt hx hy
  have e : IntKind.u64.wrap (↑x * ↑y) = ((x * y : Nat) : Int) := by
    rw [← Int.natCast_mul]
    generalize x * y = z at *
    simp only [IntKind.wrap, IntKind.bits, IntKind.signed]
    simp
    omega
  refine ⟨ret2 ?_ ?_, rfl⟩
  · rw [e]
    generalize x * y = z at *
    omega
  · rw [e]
    generalize x * y = z at *
    omega

/-- Own numbers stay while only their own block turns. -/
theorem Own.upd_row {k : IntKind} {E : TypeId} {w : World} {base g cap n : Nat} {f : Nat → Nat} (h : RowAt k E w g cap n f) (hb : base ≤ g) (hc : cap ≤ 9223372036854775807) : Own k E w base (.slice (some ⟨g, 0, none⟩) n cap) n f :=
  .inr ⟨g, cap, rfl, hb, hc, h⟩

set_option maxHeartbeats 1000000 in
theorem shiftIn_any (base : Nat) (v : Value) (n c0 : Nat) (f : Nat → Nat) (w : World) (hv : Own .u32 63 w base v n f) (hf : Can 4294967296 f n) (hc0 : c0 < 1000000000) (hn : 4 * (n + 1) ≤ 140737488355328) (hbase : base ≤ w.heap.size) :
    Calls Tryd.prog 88 #[v, .int .u32 c0] w fun e w' => ∃ v' n' f', e = .returned v' ∧ Own .u32 63 w' base v' n' f' ∧ Below base w w' ∧ Can 4294967296 f' n' ∧ n' ≤ n + 1 ∧ num 4294967296 f' n' = num 4294967296 f n * 1000000000 + c0 := by
  obtain ⟨i, hi, hz0, hz1, hz2⟩ := info_parts infoU
  rcases hv with ⟨rfl, rfl⟩ | ⟨g, cap, rfl, hbg, hcap, hrow⟩
  · have hnil := World.ownsRow_nil w base 63 1
    by_cases hz : c0 = 0
    · subst hz
      go_enter Tryd.func88, Tryd.ntmps88
      go_wp2_with fail
      refine wp_loop_rounds 1 ?_
      rw [rounds_succ]
      go_wp2_with fail
      go_ret
      exact ⟨_, 0, f, rfl, .inl ⟨rfl, rfl⟩, Below.refl _ _, ⟨fun i hi => by omega, .inl rfl⟩, by omega, by simp [num]⟩
    · have hne : ((c0 : Int) != 0) = true := by rw [bne_iff_ne]; omega
      go_enter Tryd.func88, Tryd.ntmps88
      go_wp2_with fail
      refine wp_loop_rounds 1 ?_
      rw [rounds_succ]
      go_wp2_with (at_builtin; refine wpList_append_own _ rfl _ _ 22 rfl base 63 i (.int .u32 0) 1 4 Tryd.underlying22 hi hz0 hz1 hz2 rfl (by decide) _ _ _ rfl (hnil.alloc _) ⟨w.heap.size, 0, none⟩ 1 1 [.int .u32 c0] rfl rfl (cells_one _ _ _) (fun u hu => by simp at hu; subst hu; rfl) (by unfold maxLen; omega) (by omega) (by simp; omega) ?_; intro v' w1 hown hgrow hx; simp only [Nat.zero_add, List.nil_append] at hown)
      go_ret
      refine ⟨v', 1, fun _ => c0, rfl, Own.of_row hown (fun j hj => by obtain rfl : j = 0 := (by omega); rfl), ((Below.refl _ _).alloc hbase _).grown hgrow (by simp; omega) (fun k hk => by cases hk), ⟨fun i hi => (show c0 < 4294967296 by omega), .inr (show c0 ≠ 0 by omega)⟩, by omega, by simp [num]⟩
  · go_enter Tryd.func88, Tryd.ntmps88
    go_wp2_with fail
    go_loopw [5, 15] (fun c t wr => ∃ (k : Nat) (f' : Nat → Nat) (cc : Nat), k ≤ n ∧ t = .int .i64 k ∧ c = .int .u32 cc ∧ RowAt .u32 63 wr g cap n f' ∧ Only g w wr ∧ ScaleRel f 1000000000 c0 n k f' cc) (fun _ t _ => n - (intOf t).toNat)
    case atStart => exact ⟨0, f, c0, Nat.zero_le _, rfl, rfl, hrow, Only.refl _ _, ScaleRel.start hf.1 hc0⟩
    case round =>
      obtain ⟨k, f', cc, hk, rfl, rfl, hr, ho, hrl⟩ := hrel
      have hcc : cc < 1000000000 := hrl.1
      by_cases hlt : k < n
      · have hx := hr.cell (i := k) hlt
        have hfr := hr.free k
        have hxl : f' k < 4294967296 := hrl.2.2.1 k hlt
        have HS := hide (hrl.step (x := f' k) hlt rfl)
        have HR := hide hr
        have HO := hide ho
        clear hrl hr ho hf hrow
        generalize f' k = x at *
        have hp : x * 1000000000 / 4294967296 < 1000000000 := by omega
        go_wp2_with (first
          | (go_at_call 94; refine (mul32_any x 1000000000 _ hxl (by decide)).mono ?_; rintro e w' ⟨rfl, rfl⟩)
          | (go_at_call 91; refine (add32_any _ _ 0 _ (Nat.mod_lt _ (by decide)) (by omega) (by omega)).mono ?_; rintro e w' ⟨rfl, rfl⟩))
        go_roundw
        case rel => exact ⟨k + 1, _, _, by omega, by go_num, by go_num, (unhide HR).set hlt _, (unhide HO).setCell _ _, unhide HS⟩
        case measure => simp [intOf]; omega
      · have hkm : k = n := by omega
        subst hkm
        have hsz : base ≤ wr.heap.size := by rw [ho.size]; omega
        by_cases hz : cc = 0
        · subst hz
          go_wp2_with fail
          go_ret
          refine ⟨_, k, f', rfl, Own.upd_row hr hbg hcap, Only.below (Below.refl _ _) ho hbg, hrl.can (by decide) hf, by omega, ?_⟩
          have := hrl.2.2.2
          omega
        · have hne : ((cc : Int) != 0) = true := by rw [bne_iff_ne]; omega
          have hown0 := (Own.upd_row hr hbg hcap).row
          have hbw := Only.below (Below.refl base w) ho hbg
          go_wp2_with (at_builtin; refine wpList_append_own _ rfl _ _ 22 rfl base 63 i (.int .u32 0) 1 4 Tryd.underlying22 hi hz0 hz1 hz2 rfl (by decide) _ _ _ rfl (hown0.alloc _) ⟨wr.heap.size, 0, none⟩ 1 1 [.int .u32 cc] rfl rfl (cells_one _ _ _) (fun u hu => by simp at hu; subst hu; rfl) (by unfold maxLen; omega) (by omega) (by simp; omega) ?_; intro v' w1 hown hgrow hx)
          go_ret
          refine ⟨v', k + 1, upd f' k cc, rfl, Own.of_row hown (fun j hj => ?_), (hbw.alloc (by omega) _).grown hgrow (by simp; omega) (fun j hj => by cases hj; exact hbg), ⟨fun j hj => ?_, .inr (by rw [Nat.add_sub_cancel, upd_same]; exact hz)⟩, Nat.le_refl _, ?_⟩
          · by_cases e : j = k
            · subst e
              rw [upd_same, List.getElem?_append_right (by rw [cellsOf_length]; exact Nat.le_refl _), cellsOf_length]
              simp
            · rw [upd_other e, List.getElem?_append_left (by rw [cellsOf_length]; omega), cellsOf_get _ _ _ _ (by omega)]
          · by_cases e : j = k
            · rw [e, upd_same]; omega
            · rw [upd_other e]; exact hrl.2.2.1 j (by omega)
          · rw [num_succ, upd_same, num_congr (g := f') (fun j hj => upd_other (by omega))]
            exact hrl.2.2.2

set_option maxHeartbeats 400000 in
theorem allDigits_yes (s : ByteArray) (w : World) (hs : s.size ≤ 9223372036854775807) (hd : ∀ i (h : i < s.size), 48 ≤ s[i].toNat ∧ s[i].toNat ≤ 57) :
    Calls Tryd.prog 87 #[.string s] w fun e w' => e = .returned (.bool true) ∧ w' = w := by
  go_enter Tryd.func87, Tryd.ntmps87
  go_wp2
  go_loop [6] (fun t => ∃ k : Nat, k ≤ s.size ∧ t = .int .i64 k) (fun t => s.size - (intOf t).toNat)
  case atStart => exact ⟨0, Nat.zero_le _, rfl⟩
  case round =>
    obtain ⟨k, hk, rfl⟩ := hrel
    by_cases hlt : k < s.size
    · obtain ⟨h1, h2⟩ := hd k hlt
      clear hd
      go_wp2
      go_round
      case rel => exact ⟨k + 1, by omega, by go_num⟩
      case measure => simp [intOf]; omega
    · go_wp2
      go_ret
      exact ⟨rfl, rfl⟩

set_option maxHeartbeats 400000 in
theorem allDigits_no (s : ByteArray) (w : World) (hs : s.size ≤ 9223372036854775807) (hd : ∃ i, ∃ h : i < s.size, s[i].toNat < 48 ∨ 57 < s[i].toNat) :
    Calls Tryd.prog 87 #[.string s] w fun e w' => e = .returned (.bool false) ∧ w' = w := by
  have HD := hide hd
  clear hd
  go_enter Tryd.func87, Tryd.ntmps87
  go_wp2
  go_loop [6] (fun t => ∃ k : Nat, k ≤ s.size ∧ t = .int .i64 k ∧ ∀ i (h : i < s.size), i < k → 48 ≤ s[i].toNat ∧ s[i].toNat ≤ 57) (fun t => s.size - (intOf t).toNat)
  case atStart => exact ⟨0, Nat.zero_le _, rfl, fun i h hi => by omega⟩
  case round =>
    obtain ⟨k, hk, rfl, hall⟩ := hrel
    have HA := hide hall
    clear hall
    by_cases hlt : k < s.size
    · by_cases hg : 48 ≤ s[k].toNat
      · by_cases hg2 : s[k].toNat ≤ 57
        · go_wp2
          go_round
          case rel => exact ⟨k + 1, by omega, by go_num, fun i h hi => by
            by_cases e : i = k
            · subst e; exact ⟨by omega, by omega⟩
            · exact unhide HA i h (by omega)⟩
          case measure => simp [intOf]; omega
        · go_wp2
          go_ret
          exact ⟨rfl, rfl⟩
      · go_wp2
        go_ret
        exact ⟨rfl, rfl⟩
    · exfalso
      obtain ⟨i, h, hi⟩ := unhide HD
      have := unhide HA i h (by omega)
      omega

set_option maxHeartbeats 400000 in
theorem groupValue_any (s : ByteArray) (d : Nat → Nat) (w : World) (hs : s.size ≤ 9) (hd : ∀ i (h : i < s.size), s[i].toNat = 48 + d i ∧ d i ≤ 9) :
    Calls Tryd.prog 89 #[.string s] w fun e w' => e = .returned (.int .u32 (dec d s.size)) ∧ w' = w := by
  go_enter Tryd.func89, Tryd.ntmps89
  go_wp2
  go_loop [3, 7] (fun v t => ∃ k : Nat, k ≤ s.size ∧ t = .int .i64 k ∧ v = .int .u32 (dec d k)) (fun _ t => s.size - (intOf t).toNat)
  case atStart => exact ⟨0, Nat.zero_le _, rfl, rfl⟩
  case round =>
    obtain ⟨k, hk, rfl, rfl⟩ := hrel
    by_cases hlt : k < s.size
    · obtain ⟨h1, h2⟩ := hd k hlt
      have hb : dec d k < 100000000 := Nat.lt_of_lt_of_le (dec_lt (fun i hi => (hd i (by omega)).2)) (show 10 ^ k ≤ 10 ^ 8 from Nat.pow_le_pow_right (by decide) (by omega))
      have HS := hide (show dec d (k + 1) = dec d k * 10 + d k from rfl)
      have HB := hide h1
      have h3 : 48 ≤ s[k].toNat := by omega
      have h4 : s[k].toNat ≤ 57 := by omega
      clear hd h1
      generalize dec d k = v at *
      go_wp2
      go_round
      case rel => exact ⟨k + 1, by omega, by go_num, by rw [unhide HS]; have := unhide HB; go_num⟩
      case measure => simp [intOf]; omega
    · have e : k = s.size := by omega
      subst e
      go_wp2
      go_ret
      exact ⟨rfl, rfl⟩

theorem nonempty_of (s : ByteArray) (h0 : 0 < s.size) : s.toList.isEmpty = false := by
  rw [Lib.toList_data]
  cases e : s.data.toList with
  | nil =>
    have : s.data.toList.length = 0 := by rw [e]; rfl
    rw [Array.length_toList] at this
    have e2 : s.size = 0 := this
    omega
  | cons x l => rfl

theorem extract_size (s : ByteArray) (a b : Nat) (h : a ≤ b) (hb : b ≤ s.size) : (s.extract a b).size = b - a := by
  rw [ByteArray.size_extract]; omega

theorem group_extract (s : ByteArray) (d : Nat → Nat) (a b : Nat) (h : a ≤ b) (hb : b ≤ s.size) (h9 : b ≤ a + 9) (hd : ∀ i (h : i < s.size), s[i].toNat = 48 + d i ∧ d i ≤ 9) (w : World) :
    Calls Tryd.prog 89 #[.string (s.extract a b)] w fun e w' => e = .returned (.int .u32 (dec (fun i => d (a + i)) (b - a))) ∧ w' = w := by
  have hz := extract_size s a b h hb
  have := groupValue_any (s.extract a b) (fun i => d (a + i)) w (by omega) (fun i hi => by
    rw [ByteArray.getElem_extract]
    exact hd (a + i) (by omega))
  rw [hz] at this
  exact this

theorem parse_step {d : Nat → Nat} {st en x : Nat} (hx : x = dec d st) (h : (st = 0 ∧ en ≤ 8) ∨ en = st + 9) : x * 1000000000 + dec (fun i => d (st + i)) (en - st) = dec d en := by
  rcases h with ⟨rfl, _⟩ | rfl
  · rw [hx, Nat.sub_zero]
    simp [dec]
  · rw [hx, dec_split, show st + 9 - st = 9 from by omega]

set_option maxHeartbeats 1000000 in
theorem parse_yes (s : ByteArray) (d : Nat → Nat) (w : World) (h0 : 0 < s.size) (hs : 4 * (s.size + 3) ≤ 140737488355328) (hd : ∀ i (h : i < s.size), s[i].toNat = 48 + d i ∧ d i ≤ 9) :
    Calls Tryd.prog 73 #[.string s] w fun e w' => ∃ v n f, e = .returned (.tuple #[v, .bool true]) ∧ Own .u32 63 w' w.heap.size v n f ∧ Below w.heap.size w w' ∧ Can 4294967296 f n ∧ n ≤ s.size + 1 ∧ num 4294967296 f n = dec d s.size := by
  have hne := nonempty_of s h0
  have HD := hide hd
  have hdig : ∀ i (h : i < s.size), 48 ≤ s[i].toNat ∧ s[i].toNat ≤ 57 := fun i h => by have := hd i h; omega
  have HDIG := hide hdig
  clear hd hdig
  go_enter Tryd.func73, Tryd.ntmps73
  go_wp2_with (go_at_call 87; refine (allDigits_yes s _ (by omega) (unhide HDIG)).mono ?_; rintro e w' ⟨rfl, rfl⟩)
  have HR := hide (show (s.size : Int) % 9 = ((s.size % 9 : Nat) : Int) by omega)
  go_loopw [4, 5, 6] (fun v t5 t6 wr => ∃ (st en n : Nat) (f : Nat → Nat), t6 = .int .i64 st ∧ t5 = .int .i64 en ∧ Own .u32 63 wr w'.heap.size v n f ∧ Below w'.heap.size w' wr ∧ Can 4294967296 f n ∧ num 4294967296 f n = dec d st ∧ n ≤ st + 1 ∧ st ≤ s.size ∧ ((st = 0 ∧ en ≤ 8 ∧ n = 0) ∨ en = st + 9) ∧ (st = s.size ∨ ∃ m, en + 9 * m = s.size)) (fun _ t5 _ _ => s.size + 9 - (intOf t5).toNat)
  case atStart => exact ⟨0, s.size % 9, 0, fun _ => 0, rfl, by go_num, .inl ⟨rfl, rfl⟩, Below.refl _ _, ⟨fun i hi => by omega, .inl rfl⟩, rfl, by omega, by omega, .inl ⟨rfl, by omega, rfl⟩, .inr ⟨s.size / 9, by omega⟩⟩
  case round =>
    obtain ⟨st, en, n, f, rfl, rfl, hown, hbel, hcan, hnum, hn, hst, hen, hm⟩ := hrel
    have HNUM := hide hnum
    clear hnum
    by_cases hlt : st < s.size
    · have hm2 : ∃ m, en + 9 * m = s.size := by rcases hm with h | h; omega; exact h
      obtain ⟨m, hm2⟩ := hm2
      have hes : en ≤ s.size := by omega
      have hse : st ≤ en := by rcases hen with h | h <;> omega
      have hse9 : en ≤ st + 9 := by rcases hen with h | h <;> omega
      have hlast : en = s.size ∨ ∃ m, en + 9 + 9 * m = s.size := by
        by_cases h : m = 0
        · left; omega
        · right; exact ⟨m - 1, by omega⟩
      have hn2 : n + 1 ≤ en + 1 := by rcases hen with h | h <;> omega
      have HL := hide hlast
      have HSTEP := hide (parse_step (d := d) (en := en) (unhide HNUM) (by rcases hen with h | h; exact .inl ⟨h.1, h.2.1⟩; exact .inr h))
      have hgl : dec (fun i => d (st + i)) (en - st) < 1000000000 := Nat.lt_of_lt_of_le (dec_lt (fun i hi => (unhide HD (st + i) (by omega)).2)) (show 10 ^ (en - st) ≤ 10 ^ 9 from Nat.pow_le_pow_right (by decide) (by omega))
      have hbs := hbel.size
      clear hm hm2 hlast hen
      go_wp2_with (go_at_call 89; refine (group_extract s d st en hse hes hse9 (unhide HD) _).mono ?_; rintro e w2 ⟨rfl, rfl⟩)
      generalize dec (fun i => d (st + i)) (en - st) = gv at *
      refine (shiftIn_any w'.heap.size _ n gv f _ hown hcan hgl (by omega) hbs).mono ?_
      rintro e w3 ⟨v3, n3, f3, rfl, ho3, hb3, hc3, hl3, hs3⟩
      have HS3 := hide hs3
      clear hs3 hown hcan
      go_wp2_with fail
      go_roundw
      case rel => exact ⟨en, en + 9, n3, f3, rfl, by go_num, ho3, hbel.trans hb3, hc3, by rw [unhide HS3]; exact unhide HSTEP, by omega, hes, .inr rfl, unhide HL⟩
      case measure => simp [intOf]; omega
    · have hst' : st = s.size := by omega
      subst hst'
      go_wp2_with fail
      go_ret2
      first | exact ⟨_, n, f, rfl, hown, hbel, hcan, hn, unhide HNUM⟩ | exact ⟨_, rfl, n, f, hown, hbel, hcan, hn, unhide HNUM⟩

set_option maxHeartbeats 400000 in
theorem parse_no (s : ByteArray) (w : World) (hs : s.size ≤ 9223372036854775807) (hd : s.size = 0 ∨ ∃ i, ∃ h : i < s.size, s[i].toNat < 48 ∨ 57 < s[i].toNat) :
    Calls Tryd.prog 73 #[.string s] w fun e w' => e = .returned (.tuple #[.slice none 0 0, .bool false]) ∧ w' = w := by
  by_cases h0 : s.size = 0
  · have he : s.toList.isEmpty = true := by
      rw [Lib.toList_data]
      have : s.data.toList.length = 0 := by rw [Array.length_toList]; exact h0
      rw [List.eq_nil_of_length_eq_zero this]
      rfl
    clear hd
    go_enter Tryd.func73, Tryd.ntmps73
    go_wp2_with fail
    go_ret2
    exact ⟨rfl, rfl⟩
  · have hne := nonempty_of s (by omega)
    have HD := hide (hd.resolve_left h0)
    clear hd
    go_enter Tryd.func73, Tryd.ntmps73
    go_wp2_with (go_at_call 87; refine (allDigits_no s _ hs (unhide HD)).mono ?_; rintro e w' ⟨rfl, rfl⟩)
    go_ret2
    exact ⟨rfl, rfl⟩

set_option maxRecDepth 4000 in
set_option maxHeartbeats 1000000 in
theorem answer_any (a : Value) (b : Bool) (n : Nat) (f : Nat → Nat) (w : World) (hv : Wk w a b n f) :
    Calls Tryd.prog 18 #[a] w fun e w' => ∃ a', e = .returned a' ∧ (∀ v, a = .agg #[v, .bool b] → a' = .agg #[.bool b, v]) ∧ Up w w' := by
  obtain ⟨v, rfl, hv⟩ := hv
  obtain ⟨ao, cap, rfl, -⟩ := id hv
  go_enter Tryd.func18, Tryd.ntmps18
  go_wp2_with fail
  go_returns
  exact ⟨_, rfl, (fun v e => by cases e; rfl), (up_alloc w _).tr (up_alloc _ _)⟩

def OwnW (w : World) (base : Nat) (a : Value) (b : Bool) (n : Nat) (f : Nat → Nat) : Prop := ∃ v, a = .agg #[v, .bool b] ∧ Own .u32 63 w base v n f

theorem numberOf_own (base : Nat) (v : Value) (n : Nat) (f : Nat → Nat) (b : Bool) (w : World) (hv : Own .u32 63 w base v n f) (hc : Can 4294967296 f n) :
    Calls Tryd.prog 19 #[v, .bool b] w fun e w' => ∃ a b', e = .returned a ∧ OwnW w' base a b' n f ∧ Up w w' ∧ CanZ b' f n ∧ sgn b' (num 4294967296 f n) = sgn b (num 4294967296 f n) := by
  have hs := hv.sl
  obtain ⟨ao, cap, rfl, -⟩ := id hs
  obtain ⟨h3, h1, h2⟩ := hs.rd
  refine (numberOf_any ao n cap f b w h3 h1 h2).mono ?_
  rintro e w' ⟨m, hm, rfl, u, hz, ht⟩
  obtain rfl : m = n := by
    rcases Nat.lt_or_ge m n with hl | hl
    · exact absurd (hz (n - 1) (by omega) (by omega)) (by rcases hc.2 with h | h; omega; exact h)
    · omega
  exact ⟨_, _, rfl, ⟨_, rfl, hv.up u⟩, u, CanZ.of hc, sgn_cut⟩

/-- How num.Parse ends: with a number, or with none. -/
def ParseEnd (r : Option Int) (M : Nat) (w : World) (e : Ending) (w' : World) : Prop := ∃ a b n f, e = .returned (.tuple #[a, .bool r.isSome]) ∧ OwnN w' w.heap.size a b n f ∧ Up w w' ∧ CanZ b f n ∧ n ≤ M ∧ sgn b (num 4294967296 f n) = r.getD 0

theorem cut_one (c : UInt8) (t : ByteArray) : (⟨#[c]⟩ ++ t : ByteArray).extract 1 (t.size + 1) = t := by
  apply ByteArray.ext
  rw [ByteArray.data_extract, ByteArray.data_append]
  have : t.size = t.data.size := rfl
  rw [this]
  apply Array.ext'
  simp
  exact List.take_of_length_le (by rw [Array.length_toList]; exact Nat.le_refl _)

set_option maxRecDepth 4000 in
set_option maxHeartbeats 1000000 in
theorem parsez_sign (c : UInt8) (t : ByteArray) (x : Nat) (w : World) (hc : c = 43 ∨ c = 45) (ht : Digs t x) (hs : 4 * (t.size + 3) ≤ 140737488355328) :
    Calls Tryd.prog 56 #[.string (⟨#[c]⟩ ++ t)] w fun e w' => ParseEnd (some (sgn (c == 45) x)) (t.size + 1) w e w' := by
  have hsz : (⟨#[c]⟩ ++ t : ByteArray).size = t.size + 1 := by rw [ByteArray.size_append]; show 1 + t.size = _; omega
  have hne := nonempty_of (⟨#[c]⟩ ++ t : ByteArray) (by omega)
  have hcut := cut_one c t
  obtain ⟨d, h1, h2, h3⟩ := ht
  have HD := hide (And.intro h2 h3)
  clear h2 h3
  go_enter Tryd.func56, Tryd.ntmps56
  rcases hc with rfl | rfl
  · go_wp2_with fail
    refine (parse_yes t d _ (by omega) hs (unhide HD).1).mono ?_
    rintro e w1 ⟨v1, n1, f1, rfl, o1, u1, c1, l1, s1⟩
    replace u1 : Up _ w1 := u1
    have HS1 := hide s1
    clear s1
    obtain ⟨ao1, cap1, rfl, -⟩ := id o1.sl
    go_wp2_with fail
    refine (numberOf_own (w.heap.size + 1) _ n1 f1 false _ (o1.mono (by simp)) c1).mono ?_
    rintro e w2 ⟨a2, b2, rfl, o2, u2, c2, s2⟩
    have HS2 := hide s2
    clear s2
    obtain ⟨v2, rfl, o2⟩ := o2
    obtain ⟨ao2, cap2, rfl, -⟩ := id o2.sl
    go_wp2_with fail
    refine (answer_any _ b2 n1 f1 _ ⟨_, rfl, o2.sl⟩).mono ?_
    rintro e w3 ⟨a3, rfl, h3, u3⟩
    obtain rfl := h3 _ rfl
    obtain ⟨d0, d1, g0, g1, lt, e0, e1⟩ := res2 w.heap.size rfl ((u1.tr u2).tr u3)
    go_wp2_with fail
    refine bodyPost_ret (by simp [results, Tryd.results56, go_sem, e0, e1]; rfl) rfl ?_
    refine ⟨_, b2, n1, f1, rfl, ⟨_, rfl, ((o2.up u3).set2 (by omega)).mono (by omega)⟩, Up.set2 ((up_alloc w _).tr ((u1.tr u2).tr u3)) (Nat.le_refl _), c2, l1, ?_⟩
    rw [unhide HS2, unhide HS1, (unhide HD).2]
    rfl
  · go_wp2_with fail
    refine (parse_yes t d _ (by omega) hs (unhide HD).1).mono ?_
    rintro e w1 ⟨v1, n1, f1, rfl, o1, u1, c1, l1, s1⟩
    replace u1 : Up _ w1 := u1
    have HS1 := hide s1
    clear s1
    obtain ⟨ao1, cap1, rfl, -⟩ := id o1.sl
    go_wp2_with fail
    refine (numberOf_own (w.heap.size + 1) _ n1 f1 true _ (o1.mono (by simp)) c1).mono ?_
    rintro e w2 ⟨a2, b2, rfl, o2, u2, c2, s2⟩
    have HS2 := hide s2
    clear s2
    obtain ⟨v2, rfl, o2⟩ := o2
    obtain ⟨ao2, cap2, rfl, -⟩ := id o2.sl
    go_wp2_with fail
    refine (answer_any _ b2 n1 f1 _ ⟨_, rfl, o2.sl⟩).mono ?_
    rintro e w3 ⟨a3, rfl, h3, u3⟩
    obtain rfl := h3 _ rfl
    obtain ⟨d0, d1, g0, g1, lt, e0, e1⟩ := res2 w.heap.size rfl ((u1.tr u2).tr u3)
    go_wp2_with fail
    refine bodyPost_ret (by simp [results, Tryd.results56, go_sem, e0, e1]; rfl) rfl ?_
    refine ⟨_, b2, n1, f1, rfl, ⟨_, rfl, ((o2.up u3).set2 (by omega)).mono (by omega)⟩, Up.set2 ((up_alloc w _).tr ((u1.tr u2).tr u3)) (Nat.le_refl _), c2, l1, ?_⟩
    rw [unhide HS2, unhide HS1, (unhide HD).2]
    rfl

set_option maxRecDepth 4000 in
set_option maxHeartbeats 1000000 in
theorem parsez_plain (t : ByteArray) (x : Nat) (w : World) (ht : Digs t x) (hs : 4 * (t.size + 3) ≤ 140737488355328) :
    Calls Tryd.prog 56 #[.string t] w fun e w' => ParseEnd (some (sgn false x)) (t.size + 1) w e w' := by
  obtain ⟨d, h1, h2, h3⟩ := ht
  have hne := nonempty_of t (by omega)
  have h00 : 0 < t.size := by omega
  have c0 := h2 0 h00
  have k1 : ((t[0].toNat : Int) == 43) = false := by simp; omega
  have k2 : ((t[0].toNat : Int) == 45) = false := by simp; omega
  have HD := hide (And.intro h2 h3)
  clear h2 h3 c0
  go_enter Tryd.func56, Tryd.ntmps56
  go_wp2_with fail
  refine (parse_yes t d _ (by omega) hs (unhide HD).1).mono ?_
  rintro e w1 ⟨v1, n1, f1, rfl, o1, u1, c1, l1, s1⟩
  replace u1 : Up _ w1 := u1
  have HS1 := hide s1
  clear s1
  obtain ⟨ao1, cap1, rfl, -⟩ := id o1.sl
  go_wp2_with fail
  refine (numberOf_own (w.heap.size + 1) _ n1 f1 false _ (o1.mono (by simp)) c1).mono ?_
  rintro e w2 ⟨a2, b2, rfl, o2, u2, c2, s2⟩
  have HS2 := hide s2
  clear s2
  obtain ⟨v2, rfl, o2⟩ := o2
  obtain ⟨ao2, cap2, rfl, -⟩ := id o2.sl
  go_wp2_with fail
  refine (answer_any _ b2 n1 f1 _ ⟨_, rfl, o2.sl⟩).mono ?_
  rintro e w3 ⟨a3, rfl, h3, u3⟩
  obtain rfl := h3 _ rfl
  obtain ⟨d0, d1, g0, g1, lt, e0, e1⟩ := res2 w.heap.size rfl ((u1.tr u2).tr u3)
  go_wp2_with fail
  refine bodyPost_ret (by simp [results, Tryd.results56, go_sem, e0, e1]; rfl) rfl ?_
  refine ⟨_, b2, n1, f1, rfl, ⟨_, rfl, ((o2.up u3).set2 (by omega)).mono (by omega)⟩, Up.set2 ((up_alloc w _).tr ((u1.tr u2).tr u3)) (Nat.le_refl _), c2, l1, ?_⟩
  rw [unhide HS2, unhide HS1, (unhide HD).2]
  rfl

end Go.Proofs.YteipogfolnlblaaDoor
