/-
  What is proved here: the document's own division by ten, its own Bits, and its own Text, which says a number in decimal digits.
-/
import Derived.Test.YtjbocfhmfidjjaaDoorRMul
import Derived.Test.YtjbocfhmfidjjaaDoorDivLimb
import Derived.Test.YtjbocfhmfidjjaaDoorBits
import Derived.Test.YtjbocfhmfidjjaaDoorText
import Derived.Maps.AppendAt
namespace Go.Proofs.YtjbocfhmfidjjaaDoor
open Go Go.RowKit

/-- From place j on: the digits of q times d, and the rest r, make the digits of f. -/
def SmRel (B : Nat) (f : Nat → Nat) (d n j : Nat) (q : Nat → Nat) (r : Nat) : Prop :=
  r < d ∧ (∀ i, i < n → q i < B) ∧ num B (fun i => q (j + i)) (n - j) * d + r = num B (fun i => f (j + i)) (n - j)
theorem SmRel.step {B : Nat} {f q : Nat → Nat} {d n j r x : Nat} (h : SmRel B f d n (j + 1) q r) (hj : j < n) (hx : f j = x) (hxl : x < B) :
    SmRel B f d n j (upd q j ((r * B + x) / d)) ((r * B + x) % d) := by
  obtain ⟨h1, h3, h4⟩ := h
  have hd : 0 < d := by omega
  have hq : (r * B + x) / d < B := by
    rw [Nat.div_lt_iff_lt_mul hd]
    have : (r + 1) * B ≤ d * B := Nat.mul_le_mul_right _ h1
    rw [Nat.add_mul, Nat.one_mul] at this
    rw [Nat.mul_comm B d]
    omega
  refine ⟨Nat.mod_lt _ hd, fun i hi => ?_, ?_⟩
  · by_cases e : i = j
    · rw [e, upd_same]; exact hq
    · rw [upd_other e]; exact h3 i hi
  · have e0 : n - j = n - (j + 1) + 1 := by omega
    rw [e0, num_head, num_head, Nat.add_zero, upd_same, hx]
    rw [num_congr (f := fun i => upd q j ((r * B + x) / d) (j + (1 + i))) (g := fun i => q (j + 1 + i)) (fun i _ => by rw [upd_other (by omega), ← Nat.add_assoc])]
    rw [num_congr (f := fun i => f (j + (1 + i))) (g := fun i => f (j + 1 + i)) (fun i _ => by rw [← Nat.add_assoc])]
    have e2 := Nat.div_add_mod (r * B + x) d
    rw [← h4]
    generalize (r * B + x) / d = p at *
    generalize (r * B + x) % d = s at *
    generalize num B (fun i => q (j + 1 + i)) (n - (j + 1)) = T at *
    rw [Nat.add_mul, Nat.mul_add, Nat.mul_assoc]
    rw [Nat.mul_comm d p] at e2
    have e3 : B * r = r * B := Nat.mul_comm _ _
    omega
theorem SmRel.done {B : Nat} {f q : Nat → Nat} {d n r : Nat} (h : SmRel B f d n 0 q r) : num B q n = num B f n / d ∧ r = num B f n % d := by
  obtain ⟨h1, h3, h4⟩ := h
  have e0 : ∀ q : Nat → Nat, (fun i => q (0 + i)) = q := fun q => by funext i; rw [Nat.zero_add]
  rw [e0, e0, Nat.sub_zero] at h4
  rw [← h4]
  constructor
  · rw [Nat.mul_comm, Nat.mul_add_div (by omega), Nat.div_eq_of_lt h1, Nat.add_zero]
  · rw [Nat.mul_comm, Nat.mul_add_mod, Nat.mod_eq_of_lt h1]

set_option maxRecDepth 4000 in
set_option maxHeartbeats 1000000 in
theorem small_any (v : Value) (n : Nat) (h : Nat → Nat) (w : World) (hv : Sl .i64 w v n h) (hd : ∀ i, i < n → h i < 65536) (hn : n ≤ 1000000000000) :
    Calls Tryd.prog 98 #[v, .int .i64 10] w fun e w' => ∃ (m : Nat) (q : Nat → Nat) (v' : Value), e = .returned (.tuple #[v', .int .i64 (num 65536 h n % 10 : Nat)]) ∧ Own .i64 3 w' w.heap.size v' m q ∧ Below w.heap.size w w' ∧ Can 65536 q m ∧ m ≤ n ∧ num 65536 q m = num 65536 h n / 10 := by
  obtain ⟨ao, cap, rfl, h1, h2, h0, h3⟩ := hv
  clear h0
  go_enter Tryd.func98, Tryd.ntmps98
  go_wp2_with (at_make; refine wpList_mkI rfl _ _ rfl .i64 .i64 _ _ n rfl rfl rfl rfl (by omega) ?_; intro w1 hr1 hb1)
  go_loopw [7, 8] (fun t7 t8 wr => ∃ (j r : Nat) (q : Nat → Nat), j ≤ n ∧ t8 = .int .i64 ((j : Int) - 1) ∧ t7 = .int .i64 r ∧ RowAt .i64 3 wr w.heap.size n n q ∧ Below w.heap.size w wr ∧ SmRel 65536 h 10 n j q r) (fun _ t8 _ => (intOf t8 + 1).toNat)
  case atStart => exact ⟨n, 0, fun _ => 0, Nat.le_refl _, rfl, rfl, hr1, hb1, ⟨by decide, fun _ _ => (by decide : (0 : Nat) < 65536), by simp [num]⟩⟩
  case round =>
    obtain ⟨j, r, q, hj, rfl, rfl, hr, hb, hrl⟩ := hrel
    clear hr1 hb1
    by_cases hj0 : j = 0
    · subst hj0
      have hq := hrl.2.1
      obtain ⟨e1, e2⟩ := hrl.done
      have HE := hide (And.intro e1 e2)
      have hsz := hb.size
      clear hrl e1 e2
      go_wp2_with fail
      refine (rtrim_any _ n q _ ((hr.own (Nat.le_refl w.heap.size) (by omega)).sl) (by omega)).mono ?_
      rintro e w5 ⟨p, v5, rfl, o5, b5, l5, z5, t5⟩
      go_wp2_with fail
      go_ret2
      refine ⟨p, q, v5, ?_, o5.mono hsz, hb.trans (b5.mono hsz), ⟨fun i hi => hq i (by omega), t5⟩, l5, ?_⟩
      · rw [← (unhide HE).2]
        rfl
      · rw [← num_tail l5 z5]
        exact (unhide HE).1
    · obtain ⟨i, rfl⟩ : ∃ i, j = i + 1 := ⟨j - 1, by omega⟩
      rcases h3 with h3 | ⟨bl, off, rfl, hc⟩
      · omega
      have hbl := Rd.lt hc (by omega)
      have hx := (hb.cell (p := ⟨bl, off + i, none⟩) hbl).trans (hc i (by omega))
      have hxl := hd i (by omega)
      have hrd : r < 10 := hrl.1
      have hfr := hr.free i
      have hcl := hr.cell (i := i) (by omega)
      have HS := hide (hrl.step (x := h i) (by omega) rfl hxl)
      have HR := hide hr
      have HB := hide hb
      clear hrl hr hb hc hd
      generalize h i = x at *
      rw [show (((i + 1 : Nat) : Int) - 1) = (i : Int) from by omega]
      have hdv : Int.tdiv ((r : Int) * 65536 + (x : Int)) 10 = (((r * 65536 + x) / 10 : Nat) : Int) := by
        rw [show ((r : Int) * 65536 + (x : Int)) = ((r * 65536 + x : Nat) : Int) from by omega]
        rfl
      have hmd : Int.tmod ((r : Int) * 65536 + (x : Int)) 10 = (((r * 65536 + x) % 10 : Nat) : Int) := by
        rw [show ((r : Int) * 65536 + (x : Int)) = ((r * 65536 + x : Nat) : Int) from by omega]
        rfl
      go_wp2_with fail
      go_roundw
      case rel => exact ⟨i, _, _, by omega, by go_num, by go_num, (unhide HR).set (by omega) _, (unhide HB).setCell (Nat.le_refl _) _, unhide HS⟩
      case measure => simp [intOf]

theorem bitLen_num16 {f : Nat → Nat} {p : Nat} (hf : ∀ i, i < p → f i < 65536) (hp : 0 < p) (ht : f (p - 1) ≠ 0) : bitLen (num 65536 f p) = 16 * (p - 1) + bitLen (f (p - 1)) := by
  obtain ⟨k, rfl⟩ : ∃ k, p = k + 1 := ⟨p - 1, by omega⟩
  rw [Nat.add_sub_cancel] at ht ⊢
  have hlo := num_lt (B := 65536) (f := f) (n := k) (fun i hi => hf i (by omega))
  have hd : num 65536 f (k + 1) / 2 ^ (16 * k) = f k := by
    have e : (2 : Nat) ^ (16 * k) = 65536 ^ k := by rw [Nat.pow_mul]
    rw [e, num_succ, Nat.add_mul_div_right _ _ (by omega), Nat.div_eq_of_lt hlo, Nat.zero_add]
  have := bitLen_shift (num 65536 f (k + 1)) (16 * k) (by rw [hd]; exact ht)
  rwa [hd] at this
theorem bitLen_half {x : Nat} (h : 0 < x) : bitLen x = bitLen (x / 2) + 1 := by
  by_cases h1 : x / 2 = 0
  · have : x = 1 := by omega
    subst this
    decide
  · have := bitLen_shift x 1 (by simpa using h1)
    simp only [Nat.pow_one] at this
    omega

set_option maxRecDepth 4000 in
set_option maxHeartbeats 1000000 in
theorem rbits_any (v : Value) (n : Nat) (f : Nat → Nat) (w : World) (hv : Sl .u32 w v n f) (hf : ∀ i, i < n → f i < 4294967296) (hn : n ≤ 1000000000000) :
    Calls Tryd.prog 68 #[v] w fun e w' => e = .returned (.int .i64 (bitLen (num 4294967296 f n))) ∧ Below w.heap.size w w' := by
  go_enter Tryd.func68, Tryd.ntmps68
  go_wp2_with fail
  refine (half_any v n f _ hv hf hn).mono ?_
  rintro e w1 ⟨m, h, v1, rfl, o1, b1, c1, l1, s1⟩
  have HS := hide s1
  clear s1 hv hf
  rcases o1 with ⟨rfl, rfl⟩ | ⟨g, cap, rfl, hg, hcap, r1⟩
  · go_wp2_with fail
    go_ret
    exact ⟨ret_len (by rw [← unhide HS, num_zero, bitLen_zero]; rfl), b1⟩
  by_cases hm0 : m = 0
  · subst hm0
    go_wp2_with fail
    go_ret
    exact ⟨ret_len (by rw [← unhide HS, num_zero, bitLen_zero]; rfl), b1⟩
  · have hb : ((m : Int) == 0) = false := beq_eq_false_iff_ne.2 (by omega)
    have ht : h (m - 1) ≠ 0 := by rcases c1.2 with h | h; omega; exact h
    have HB := hide (bitLen_num16 c1.1 (by omega) ht)
    have hx := r1.cell (i := m - 1) (by omega)
    have hxl := c1.1 (m - 1) (by omega)
    clear c1 r1 ht
    generalize h (m - 1) = x at *
    go_wp2_with fail
    go_loop [4, 5] (fun t4 t5 => ∃ k y : Nat, y ≤ x ∧ t5 = .int .i64 y ∧ t4 = .int .i64 ((16 * (m - 1) + k : Nat) : Int) ∧ k + y ≤ x ∧ k + bitLen y = bitLen x) (fun _ t5 => (intOf t5).toNat)
    case atStart => exact ⟨0, x, Nat.le_refl _, rfl, by go_num, by omega, by omega⟩
    case round =>
      obtain ⟨k, y, hy, rfl, rfl, hky, hkb⟩ := hrel
      by_cases hy0 : y = 0
      · subst hy0
        have HK := hide hkb
        clear hkb
        go_wp2_with fail
        go_ret
        exact ⟨ret_len (by have := unhide HK; rw [bitLen_zero] at this; rw [← unhide HS, unhide HB]; omega), b1⟩
      · have HK := hide hkb
        have HH := hide (bitLen_half (x := y) (by omega))
        clear hkb
        have hyp : (0 : Int) < (y : Int) := by omega
        have hdv : Int.tdiv (y : Int) 2 = ((y / 2 : Nat) : Int) := rfl
        go_wp2_with fail
        go_round
        case rel => exact ⟨k + 1, y / 2, by omega, by go_num, by go_num, by omega, by have h1 := unhide HK; have h2 := unhide HH; omega⟩
        case measure => simp [intOf]; omega

/-- Behind k digits, the lowest first: V is the k digits and what is left, X, behind them. -/
def TenRel (V k : Nat) (D : Nat → Nat) (X : Nat) : Prop :=
  (∀ i, i < k → D i ≤ 9) ∧ V = num 10 D k + X * 10 ^ k ∧ (X = 0 → k = 0 ∨ D (k - 1) ≠ 0)
theorem TenRel.step {V k X : Nat} {D : Nat → Nat} (h : TenRel V k D X) (hX : 0 < X) : TenRel V (k + 1) (upd D k (X % 10)) (X / 10) := by
  obtain ⟨h1, h2, h3⟩ := h
  refine ⟨fun i hi => ?_, ?_, fun hz => .inr ?_⟩
  · by_cases e : i = k
    · rw [e, upd_same]; omega
    · rw [upd_other e]; exact h1 i (by omega)
  · rw [num_succ, upd_same, num_congr (g := D) (fun i hi => upd_other (by omega)), h2, Nat.pow_succ]
    generalize 10 ^ k = P
    have : X % 10 * P + X / 10 * (P * 10) = X * P := by
      rw [Nat.mul_comm P, ← Nat.mul_assoc, ← Nat.add_mul, Nat.mul_comm _ 10, Nat.mod_add_div]
    omega
  · rw [Nat.add_sub_cancel, upd_same]
    omega
/-- So many digits to the base 65536 make at most five times as many decimal ones. -/
theorem TenRel.few {V k X n : Nat} {D : Nat → Nat} (h : TenRel V k D X) (hX : 0 < X) (hV : V < 65536 ^ n) : k < 5 * n := by
  have h2 := h.2.1
  have h3 : 1 * 10 ^ k ≤ X * 10 ^ k := Nat.mul_le_mul_right _ hX
  have h4 : 65536 ^ n ≤ 10 ^ (5 * n) := by
    rw [Nat.pow_mul]
    exact Nat.pow_le_pow_left (by decide) n
  apply Nat.lt_of_not_le
  intro hle
  have h5 : 10 ^ (5 * n) ≤ 10 ^ k := Nat.pow_le_pow_right (by decide) hle
  omega
theorem dec_rev (D : Nat → Nat) (k : Nat) : dec (fun j => D (k - 1 - j)) k = num 10 D k := by
  induction k with
  | zero => rfl
  | succ k ih =>
    rw [num_succ, ← ih, Nat.add_comm k 1, dec_split]
    rw [dec_congr (d := fun i => D (1 + k - 1 - (1 + i))) (e := fun j => D (k - 1 - j)) (fun i _ => by rw [show 1 + k - 1 - (1 + i) = k - 1 - i from by omega])]
    simp only [dec, Nat.zero_mul, Nat.zero_add]
    rw [show 1 + k - 1 - 0 = k from by omega]
    omega

/-- Digits turned round as far as place i. -/
def turn (D : Nat → Nat) (k i : Nat) : Nat → Nat := fun j => if j < i ∨ k - i ≤ j then 48 + D (k - 1 - j) else 48 + D j

theorem turn_step (D : Nat → Nat) (i j : Nat) (h : i < j) : ∀ x, x < i + j + 1 → upd (upd (turn D (i + j + 1) i) i (48 + D j)) j (48 + D i) x = turn D (i + j + 1) (i + 1) x := by
  intro x hx
  by_cases e1 : x = j
  · subst e1
    rw [upd_same]
    unfold turn
    rw [if_pos (by omega), show i + x + 1 - 1 - x = i from by omega]
  · rw [upd_other e1]
    by_cases e2 : x = i
    · subst e2
      rw [upd_same]
      unfold turn
      rw [if_pos (by omega), show x + j + 1 - 1 - x = j from by omega]
    · rw [upd_other e2]
      unfold turn
      by_cases c : x < i ∨ i + j + 1 - i ≤ x
      · rw [if_pos c, if_pos (by omega)]
      · rw [if_neg c, if_neg (by omega)]
theorem turn_done (D : Nat → Nat) (k j : Nat) (hj : j < k) : turn D k (k / 2) j = 48 + D (k - 1 - j) := by
  unfold turn
  by_cases c : j < k / 2 ∨ k - k / 2 ≤ j
  · rw [if_pos c]
  · rw [if_neg c, show k - 1 - j = j from by omega]

set_option maxRecDepth 4000 in
set_option maxHeartbeats 2000000 in
theorem rtext_any (v : Value) (n : Nat) (f : Nat → Nat) (w : World) (hv : Sl .u32 w v n f) (hf : ∀ i, i < n → f i < 4294967296) (hn : n ≤ 400000000000) :
    Calls Tryd.prog 73 #[v] w fun e w' => ∃ s, e = .returned (.string s) ∧ Below w.heap.size w w' ∧ Says s (num 4294967296 f n) := by
  obtain ⟨i, hi, hz0, hz1, hz2⟩ := info_parts infoB
  go_enter Tryd.func73, Tryd.ntmps73
  go_wp2_with fail
  refine (half_any v n f _ hv hf (by omega)).mono ?_
  rintro e w1 ⟨m0, h0, v1, rfl, o1, b1, c1, l1, s1⟩
  have HS := hide s1
  have hV := num_lt c1.1
  rw [s1] at hV
  have HV := hide hV
  have hsz1 := b1.size
  clear s1 hv hf hV
  by_cases hm0 : m0 = 0
  · subst hm0
    obtain ⟨ao1, cap1, rfl, -⟩ := id o1.sl
    go_wp2_with fail
    go_ret
    refine ⟨⟨#[48]⟩, rfl, b1, ?_⟩
    rw [← unhide HS]
    refine ⟨fun _ => 0, Nat.le_refl _, fun i h => ?_, rfl, .inl rfl⟩
    have e : i = 0 := by have : i < 1 := h; omega
    subst e
    exact ⟨rfl, Nat.zero_le _⟩
  · have hb : ((m0 : Int) == 0) = false := beq_eq_false_iff_ne.2 (by omega)
    have hs1 := o1.sl
    obtain ⟨ao1, cap1, rfl, -⟩ := id hs1
    have hpos : 0 < num 65536 h0 m0 := by
      have := num_ge (B := 65536) (f := h0) (n := m0) (by omega) (by rcases c1.2 with h | h; omega; exact h)
      have : 0 < 65536 ^ (m0 - 1) := Nat.pos_of_ne_zero (by simp)
      omega
    have HPOS := hide hpos
    clear hpos o1
    go_wp2_with fail
    go_loopw [3, 4] (fun u3 u4 wr => ∃ (m k : Nat) (q D : Nat → Nat), Sl .i64 wr u3 m q ∧ Can 65536 q m ∧ m ≤ m0 ∧ Own .u8 5 wr w1.heap.size u4 k (fun i => 48 + D i) ∧ Below w1.heap.size w1 wr ∧ k ≤ 5 * m0 ∧ Hid (TenRel (num 4294967296 f n) k D (num 65536 q m))) (fun _ u4 _ => 5 * m0 - lenOf u4)
    case atStart => exact ⟨m0, 0, h0, fun _ => 0, hs1, c1, Nat.le_refl _, .inl ⟨rfl, rfl⟩, Below.refl _ _, by omega, hide ⟨fun i hi => by omega, by rw [unhide HS]; simp [num], fun _ => .inl rfl⟩⟩
    case round =>
      clear hs1 c1
      obtain ⟨m, k, q, D, hsl, hc, hm, hown, hbel, hk, HT⟩ := hrel
      obtain ⟨ao3, cap3, rfl, -⟩ := id hsl
      have hszr := hbel.size
      by_cases hm1 : m = 0
      · subst hm1
        obtain ⟨hD, hVk, hDk⟩ := unhide HT
        rw [num_zero] at hVk hDk
        have hk0 : k ≠ 0 := by
          rintro rfl
          have := unhide HPOS
          rw [unhide HS, hVk] at this
          simp [num] at this
        have hd0 : D (k - 1) ≠ 0 := by rcases hDk rfl with h | h; exact absurd h hk0; exact h
        have HD := hide (And.intro hD (And.intro hVk hd0))
        clear hD hVk hDk hd0 HT HPOS
        rcases hown with ⟨h, h'⟩ | ⟨g, cap, rfl, hg, hcap, hr⟩
        · exact absurd h' hk0
        have hr0 : RowAt .u8 5 wr g cap k (turn D k 0) := hr.congr (fun j hj => by unfold turn; rw [if_neg (by omega)])
        clear hr
        go_wp2_with fail
        go_loopw [7] (fun t7 wx => ∃ i : Nat, i ≤ k / 2 ∧ t7 = .int .i64 i ∧ RowAt .u8 5 wx g cap k (turn D k i) ∧ Below w1.heap.size w1 wx) (fun t7 _ => k - (intOf t7).toNat)
        case atStart => exact ⟨0, Nat.zero_le _, rfl, hr0, hbel⟩
        case round =>
          clear hr0 hbel hszr
          obtain ⟨i, hi2, rfl, hr, hbx⟩ := hrel
          have hdv : Int.tdiv (k : Int) 2 = ((k / 2 : Nat) : Int) := rfl
          by_cases hlt : i < k / 2
          · obtain ⟨j, rfl⟩ : ∃ j, k = i + j + 1 := ⟨k - 1 - i, by omega⟩
            have hx := hr.cell (i := i) (by omega)
            have hy := hr.cell (i := j) (by omega)
            have hfx := hr.free i
            have hfy := hr.free j
            have hcx : turn D (i + j + 1) i i = 48 + D i := by unfold turn; rw [if_neg (by omega)]
            have hcy : turn D (i + j + 1) i j = 48 + D j := by unfold turn; rw [if_neg (by omega)]
            rw [hcx] at hx
            rw [hcy] at hy
            clear hcx hcy
            have HR := hide hr
            clear hr
            have hw1 : IntKind.i64.wrap ((i : Int) + (j : Int) + 1 - 1) = (i : Int) + (j : Int) := by rw [IntKind.wrap_i64]; omega
            have hw2 : IntKind.i64.wrap ((i : Int) + (j : Int) - (i : Int)) = (j : Int) := by rw [IntKind.wrap_i64]; omega
            have hx' : wr.drew.cell? ⟨g, i, none⟩ = some (.int .u8 ((48 + D i : Nat) : Int)) := hx
            have hy' : wr.drew.cell? ⟨g, j, none⟩ = some (.int .u8 ((48 + D j : Nat) : Int)) := hy
            go_wp2_with fail
            go_region
            go_wp2_with fail
            go_roundw
            case rel =>
              have e1 : ((48 + D j : Nat) : Int) = 48 + (D j : Int) := by omega
              have e2 : ((48 + D i : Nat) : Int) = 48 + (D i : Int) := by omega
              have h1 := ((unhide HR).set (i := i) (by omega) (48 + D j)).set (i := j) (by omega) (48 + D i)
              rw [e1, e2] at h1
              have h2 := h1.congr (turn_step D i j (by omega))
              exact ⟨i + 1, by omega, by go_num, h2, ((hbx.setCell hg _).setCell hg _).drew⟩
            case measure => simp [intOf]; omega
          · obtain rfl : i = k / 2 := by omega
            obtain ⟨hD, hVk, hd0⟩ := unhide HD
            have hrd : RowAt .u8 5 wr g cap k (fun j => 48 + (fun j => D (k - 1 - j)) j) := hr.congr (fun j hj => turn_done D k j hj)
            have hconv := conv_digits _ g cap k _ (fun j => D (k - 1 - j)) (fun j hj => hD _ (by omega)) hrd
            clear hr hrd
            go_wp2_with fail
            go_ret
            refine ⟨_, rfl, b1.trans (hbx.mono hsz1), says_mk (fun j => D (k - 1 - j)) k _ (fun j hj => hD _ (by omega)) (by omega) ?_ (.inr ?_)⟩
            · rw [dec_rev, hVk]
              omega
            · show D (k - 1 - 0) ≠ 0
              exact hd0
      · have hX : 0 < num 65536 q m := by
          have := num_ge (B := 65536) (f := q) (n := m) (by omega) (by rcases hc.2 with h | h; omega; exact h)
          have : 0 < 65536 ^ (m - 1) := Nat.pos_of_ne_zero (by simp)
          omega
        have hfew := (unhide HT).few hX (unhide HV)
        have HST := hide ((unhide HT).step hX)
        have hxp : (0 : Int) < (m : Int) := by omega
        clear HT hX
        go_wp2_with fail
        refine (small_any _ m q _ hsl hc.1 (by omega)).mono ?_
        rintro e w2 ⟨m2, q2, v2, rfl, o2, b2, c2, l2, s2⟩
        replace b2 : Up wr w2 := b2
        have hsz2 := Below.size b2
        have HS2 := hide s2
        have hr10 : num 65536 q m % 10 < 10 := Nat.mod_lt _ (by decide)
        clear s2
        generalize hrr : num 65536 q m % 10 = r at *
        have hown2 := hown.up b2
        have hrow := hown2.row
        have hlt4 : ∀ g, u4.ownBlock = some g → g < wr.heap.size := fun g hg => (hown.row.lt g hg).2
        have hwb : IntKind.u8.wrap (48 + (r : Int)) = 48 + (r : Int) := by
          simp only [IntKind.wrap, IntKind.bits, IntKind.signed]
          simp
          omega
        go_wp2_with (at_builtin; refine wpList_append_own _ rfl _ _ 104 rfl w1.heap.size 5 i (.int .u8 0) 1 1 Tryd.underlying104 hi hz0 hz1 hz2 rfl (by decide) _ _ _ rfl (hrow.alloc _) ⟨w2.heap.size, 0, none⟩ 1 1 [.int .u8 (48 + (r : Int))] rfl rfl (cells_one _ _ _) (fun u hu => by simp at hu; subst hu; rfl) (by unfold maxLen; omega) (by omega) (by simp; omega) ?_; intro v4 w4 hown4 hgrow4 hx4)
        have hown5 : Own .u8 5 w4 w1.heap.size v4 (k + 1) (fun i => 48 + upd D k r i) := Own.of_row hown4 (fun j hj => by
          by_cases e : j = k
          · subst e
            rw [upd_same, List.getElem?_append_right (by rw [cellsOf_length]; exact Nat.le_refl _), cellsOf_length]
            simp
          · rw [upd_other e, List.getElem?_append_left (by rw [cellsOf_length]; omega), cellsOf_get _ _ _ _ (by omega)])
        have hs4 : Sl .i64 w4 v2 m2 q2 := by
          rcases o2 with ⟨rfl, rfl⟩ | ⟨g2, cap2, rfl, hg2, hcap2, r2⟩
          · exact ⟨none, 0, rfl, Nat.le_refl _, by omega, fun _ => rfl, .inl rfl⟩
          · have hlt2 := r2.lt
            have hbk : w4.heap[g2]? = w2.heap[g2]? := (hgrow4.block _ (by simp; omega) (fun e => by have := hlt4 g2 e.symm; omega)).trans (Below.heap_alloc w2 _ _ (by omega))
            exact ((r2.block hbk).own (Nat.le_refl _) hcap2).sl
        have hb4 : Below w1.heap.size w1 w4 := ((hbel.trans (Below.mono b2 hszr)).alloc (by omega) _).grown hgrow4 (by simp; omega) (fun j hj => (hrow.lt j hj).1)
        have hlen : lenOf v4 = k + 1 := by
          rcases hown5 with ⟨h, h'⟩ | ⟨g, cp, h, _⟩
          · omega
          · rw [h]; rfl
        have hlen0 : lenOf u4 = k := by
          rcases hown with ⟨h, h'⟩ | ⟨g, cp, h, _⟩
          · rw [h, h']; rfl
          · rw [h]; rfl
        have HL := hide hlen
        have HL0 := hide hlen0
        clear hown4 hgrow4 hx4 hrow hown hown2 hlt4 hlen hlen0 o2 hbel b2
        go_wp2_with fail
        go_roundw
        case rel => exact ⟨m2, k + 1, q2, _, hs4, c2, by omega, hown5, hb4, by omega, by rw [unhide HS2]; exact HST⟩
        case measure => rw [unhide HL, unhide HL0]; omega

end Go.Proofs.YtjbocfhmfidjjaaDoor
