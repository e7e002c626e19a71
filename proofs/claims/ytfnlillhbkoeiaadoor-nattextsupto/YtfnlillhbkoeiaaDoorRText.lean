/-
  What is proved here: the document's own Text says a number in decimal digits.
-/
import Derived.Test.YtfnlillhbkoeiaaDoorRBits
import Derived.Test.YtfnlillhbkoeiaaDoorText
import Derived.Maps.AppendAt
namespace Go.Proofs.YtfnlillhbkoeiaaDoor
open Go Go.RowKit

/-- Behind k digits, the lowest first: V is the k digits and what is left, X, behind them. -/
def TenRel (V k : Nat) (D : Nat → Nat) (X : Nat) : Prop :=
  (∀ i, i < k → D i ≤ 9) ∧ V = num 10 D k + X * 10 ^ k ∧ (X = 0 → k = 0 ∨ D (k - 1) ≠ 0)
theorem TenRel.step {V k X : Nat} {D : Nat → Nat} (h : TenRel V k D X) (hX : 0 < X) : TenRel V (k + 1) (upd D k (X % 10)) (X / 10) := by
  obtain ⟨h1, h2, h3⟩ := h
  refine ⟨fun i hi => ?_, ?_, fun hz => .inr ?_⟩
  · by_cases e : i = k
    · rw [e, upd_same]; omega
    · rw [upd_other e]; exact h1 i (by omega)
  · rw [num_succ, upd_same, num_congr (g := D) (fun i hi => upd_other (by omega)), h2, Nat.pow_succ]
    generalize 10 ^ k = P
    have : X % 10 * P + X / 10 * (P * 10) = X * P := by
      rw [Nat.mul_comm P, ← Nat.mul_assoc, ← Nat.add_mul, Nat.mul_comm _ 10, Nat.mod_add_div]
    omega
  · rw [Nat.add_sub_cancel, upd_same]
    omega
/-- So many digits to the base 65536 make at most five times as many decimal ones. -/
theorem TenRel.few {V k X n : Nat} {D : Nat → Nat} (h : TenRel V k D X) (hX : 0 < X) (hV : V < 65536 ^ n) : k < 5 * n := by
  have h2 := h.2.1
  have h3 : 1 * 10 ^ k ≤ X * 10 ^ k := Nat.mul_le_mul_right _ hX
  have h4 : 65536 ^ n ≤ 10 ^ (5 * n) := by
    rw [Nat.pow_mul]
    exact Nat.pow_le_pow_left (by decide) n
  apply Nat.lt_of_not_le
  intro hle
  have h5 : 10 ^ (5 * n) ≤ 10 ^ k := Nat.pow_le_pow_right (by decide) hle
  omega
theorem dec_rev (D : Nat → Nat) (k : Nat) : dec (fun j => D (k - 1 - j)) k = num 10 D k := by
  induction k with
  | zero => rfl
  | succ k ih =>
    rw [num_succ, ← ih, Nat.add_comm k 1, dec_split]
    rw [dec_congr (d := fun i => D (1 + k - 1 - (1 + i))) (e := fun j => D (k - 1 - j)) (fun i _ => by rw [show 1 + k - 1 - (1 + i) = k - 1 - i from by omega])]
    simp only [dec, Nat.zero_mul, Nat.zero_add]
    rw [show 1 + k - 1 - 0 = k from by omega]
    omega

/-- Digits turned round as far as place i. -/
def turn (D : Nat → Nat) (k i : Nat) : Nat → Nat := fun j => if j < i ∨ k - i ≤ j then 48 + D (k - 1 - j) else 48 + D j

theorem turn_step (D : Nat → Nat) (i j : Nat) (h : i < j) : ∀ x, x < i + j + 1 → upd (upd (turn D (i + j + 1) i) i (48 + D j)) j (48 + D i) x = turn D (i + j + 1) (i + 1) x := by
  intro x hx
  by_cases e1 : x = j
  · subst e1
    rw [upd_same]
    unfold turn
    rw [if_pos (by omega), show i + x + 1 - 1 - x = i from by omega]
  · rw [upd_other e1]
    by_cases e2 : x = i
    · subst e2
      rw [upd_same]
      unfold turn
      rw [if_pos (by omega), show x + j + 1 - 1 - x = j from by omega]
    · rw [upd_other e2]
      unfold turn
      by_cases c : x < i ∨ i + j + 1 - i ≤ x
      · rw [if_pos c, if_pos (by omega)]
      · rw [if_neg c, if_neg (by omega)]
theorem turn_done (D : Nat → Nat) (k j : Nat) (hj : j < k) : turn D k (k / 2) j = 48 + D (k - 1 - j) := by
  unfold turn
  by_cases c : j < k / 2 ∨ k - k / 2 ≤ j
  · rw [if_pos c]
  · rw [if_neg c, show k - 1 - j = j from by omega]

set_option maxRecDepth 4000 in
set_option maxHeartbeats 2000000 in
theorem rtext_any (v : Value) (n : Nat) (f : Nat → Nat) (w : World) (hv : Sl .u32 w v n f) (hf : ∀ i, i < n → f i < 4294967296) (hn : n ≤ 400000000000) :
    Calls Tryd.prog 30 #[v] w fun e w' => ∃ s, e = .returned (.string s) ∧ Below w.heap.size w w' ∧ Says s (num 4294967296 f n) := by
  obtain ⟨i, hi, hz0, hz1, hz2⟩ := info_parts infoB
  go_enter Tryd.func30, Tryd.ntmps30
  go_wp2_with fail
  refine (half_any v n f _ hv hf (by omega)).mono ?_
  rintro e w1 ⟨m0, h0, v1, rfl, o1, b1, c1, l1, s1⟩
  have HS := hide s1
  have hV := num_lt c1.1
  rw [s1] at hV
  have HV := hide hV
  have hsz1 := b1.size
  clear s1 hv hf hV
  by_cases hm0 : m0 = 0
  · subst hm0
    obtain ⟨ao1, cap1, rfl, -⟩ := id o1.sl
    go_wp2_with fail
    go_ret
    refine ⟨⟨#[48]⟩, rfl, b1, ?_⟩
    rw [← unhide HS]
    refine ⟨fun _ => 0, Nat.le_refl _, fun i h => ?_, rfl, .inl rfl⟩
    have e : i = 0 := by have : i < 1 := h; omega
    subst e
    exact ⟨rfl, Nat.zero_le _⟩
  · have hb : ((m0 : Int) == 0) = false := beq_eq_false_iff_ne.2 (by omega)
    have hs1 := o1.sl
    obtain ⟨ao1, cap1, rfl, -⟩ := id hs1
    have hpos : 0 < num 65536 h0 m0 := by
      have := num_ge (B := 65536) (f := h0) (n := m0) (by omega) (by rcases c1.2 with h | h; omega; exact h)
      have : 0 < 65536 ^ (m0 - 1) := Nat.pos_of_ne_zero (by simp)
      omega
    have HPOS := hide hpos
    clear hpos o1
    go_wp2_with fail
    go_loopw [3, 4] (fun u3 u4 wr => ∃ (m k : Nat) (q D : Nat → Nat), Sl .i64 wr u3 m q ∧ Can 65536 q m ∧ m ≤ m0 ∧ Own .u8 5 wr w1.heap.size u4 k (fun i => 48 + D i) ∧ Below w1.heap.size w1 wr ∧ k ≤ 5 * m0 ∧ Hid (TenRel (num 4294967296 f n) k D (num 65536 q m))) (fun _ u4 _ => 5 * m0 - lenOf u4)
    case atStart => exact ⟨m0, 0, h0, fun _ => 0, hs1, c1, Nat.le_refl _, .inl ⟨rfl, rfl⟩, Below.refl _ _, by omega, hide ⟨fun i hi => by omega, by rw [unhide HS]; simp [num], fun _ => .inl rfl⟩⟩
    case round =>
      clear hs1 c1
      obtain ⟨m, k, q, D, hsl, hc, hm, hown, hbel, hk, HT⟩ := hrel
      obtain ⟨ao3, cap3, rfl, -⟩ := id hsl
      have hszr := hbel.size
      by_cases hm1 : m = 0
      · subst hm1
        obtain ⟨hD, hVk, hDk⟩ := unhide HT
        rw [num_zero] at hVk hDk
        have hk0 : k ≠ 0 := by
          rintro rfl
          have := unhide HPOS
          rw [unhide HS, hVk] at this
          simp [num] at this
        have hd0 : D (k - 1) ≠ 0 := by rcases hDk rfl with h | h; exact absurd h hk0; exact h
        have HD := hide (And.intro hD (And.intro hVk hd0))
        clear hD hVk hDk hd0 HT HPOS
        rcases hown with ⟨h, h'⟩ | ⟨g, cap, rfl, hg, hcap, hr⟩
        · exact absurd h' hk0
        have hr0 : RowAt .u8 5 wr g cap k (turn D k 0) := hr.congr (fun j hj => by unfold turn; rw [if_neg (by omega)])
        clear hr
        go_wp2_with fail
        go_loopw [7] (fun t7 wx => ∃ i : Nat, i ≤ k / 2 ∧ t7 = .int .i64 i ∧ RowAt .u8 5 wx g cap k (turn D k i) ∧ Below w1.heap.size w1 wx) (fun t7 _ => k - (intOf t7).toNat)
        case atStart => exact ⟨0, Nat.zero_le _, rfl, hr0, hbel⟩
        case round =>
          clear hr0 hbel hszr
          obtain ⟨i, hi2, rfl, hr, hbx⟩ := hrel
          have hdv : Int.tdiv (k : Int) 2 = ((k / 2 : Nat) : Int) := rfl
          by_cases hlt : i < k / 2
          · obtain ⟨j, rfl⟩ : ∃ j, k = i + j + 1 := ⟨k - 1 - i, by omega⟩
            have hx := hr.cell (i := i) (by omega)
            have hy := hr.cell (i := j) (by omega)
            have hfx := hr.free i
            have hfy := hr.free j
            have hcx : turn D (i + j + 1) i i = 48 + D i := by unfold turn; rw [if_neg (by omega)]
            have hcy : turn D (i + j + 1) i j = 48 + D j := by unfold turn; rw [if_neg (by omega)]
            rw [hcx] at hx
            rw [hcy] at hy
            clear hcx hcy
            have HR := hide hr
            clear hr
            have hw1 : IntKind.i64.wrap ((i : Int) + (j : Int) + 1 - 1) = (i : Int) + (j : Int) := by rw [IntKind.wrap_i64]; omega
            have hw2 : IntKind.i64.wrap ((i : Int) + (j : Int) - (i : Int)) = (j : Int) := by rw [IntKind.wrap_i64]; omega
            have hx' : wr.drew.cell? ⟨g, i, none⟩ = some (.int .u8 ((48 + D i : Nat) : Int)) := hx
            have hy' : wr.drew.cell? ⟨g, j, none⟩ = some (.int .u8 ((48 + D j : Nat) : Int)) := hy
            go_wp2_with fail
            go_region
            go_wp2_with fail
            go_roundw
            case rel =>
              have e1 : ((48 + D j : Nat) : Int) = 48 + (D j : Int) := by omega
              have e2 : ((48 + D i : Nat) : Int) = 48 + (D i : Int) := by omega
              have h1 := ((unhide HR).set (i := i) (by omega) (48 + D j)).set (i := j) (by omega) (48 + D i)
              rw [e1, e2] at h1
              have h2 := h1.congr (turn_step D i j (by omega))
              exact ⟨i + 1, by omega, by go_num, h2, ((hbx.setCell hg _).setCell hg _).drew⟩
            case measure => simp [intOf]; omega
          · obtain rfl : i = k / 2 := by omega
            obtain ⟨hD, hVk, hd0⟩ := unhide HD
            have hrd : RowAt .u8 5 wr g cap k (fun j => 48 + (fun j => D (k - 1 - j)) j) := hr.congr (fun j hj => turn_done D k j hj)
            have hconv := conv_digits _ g cap k _ (fun j => D (k - 1 - j)) (fun j hj => hD _ (by omega)) hrd
            clear hr hrd
            go_wp2_with fail
            go_ret
            refine ⟨_, rfl, b1.trans (hbx.mono hsz1), says_mk (fun j => D (k - 1 - j)) k _ (fun j hj => hD _ (by omega)) (by omega) ?_ (.inr ?_)⟩
            · rw [dec_rev, hVk]
              omega
            · show D (k - 1 - 0) ≠ 0
              exact hd0
      · have hX : 0 < num 65536 q m := by
          have := num_ge (B := 65536) (f := q) (n := m) (by omega) (by rcases hc.2 with h | h; omega; exact h)
          have : 0 < 65536 ^ (m - 1) := Nat.pos_of_ne_zero (by simp)
          omega
        have hfew := (unhide HT).few hX (unhide HV)
        have HST := hide ((unhide HT).step hX)
        have hxp : (0 : Int) < (m : Int) := by omega
        clear HT hX
        go_wp2_with fail
        refine (small_any _ m q _ hsl hc.1 (by omega)).mono ?_
        rintro e w2 ⟨m2, q2, v2, rfl, o2, b2, c2, l2, s2⟩
        replace b2 : Up wr w2 := b2
        have hsz2 := Below.size b2
        have HS2 := hide s2
        have hr10 : num 65536 q m % 10 < 10 := Nat.mod_lt _ (by decide)
        clear s2
        generalize hrr : num 65536 q m % 10 = r at *
        have hown2 := hown.up b2
        have hrow := hown2.row
        have hlt4 : ∀ g, u4.ownBlock = some g → g < wr.heap.size := fun g hg => (hown.row.lt g hg).2
        have hwb : IntKind.u8.wrap (48 + (r : Int)) = 48 + (r : Int) := by
          simp only [IntKind.wrap, IntKind.bits, IntKind.signed]
          simp
          omega
        go_wp2_with (at_builtin; refine wpList_append_own _ rfl _ _ 61 rfl w1.heap.size 5 i (.int .u8 0) 1 1 Tryd.underlying61 hi hz0 hz1 hz2 rfl (by decide) _ _ _ rfl (hrow.alloc _) ⟨w2.heap.size, 0, none⟩ 1 1 [.int .u8 (48 + (r : Int))] rfl rfl (cells_one _ _ _) (fun u hu => by simp at hu; subst hu; rfl) (by unfold maxLen; omega) (by omega) (by simp; omega) ?_; intro v4 w4 hown4 hgrow4 hx4)
        have hown5 : Own .u8 5 w4 w1.heap.size v4 (k + 1) (fun i => 48 + upd D k r i) := Own.of_row hown4 (fun j hj => by
          by_cases e : j = k
          · subst e
            rw [upd_same, List.getElem?_append_right (by rw [cellsOf_length]; exact Nat.le_refl _), cellsOf_length]
            simp
          · rw [upd_other e, List.getElem?_append_left (by rw [cellsOf_length]; omega), cellsOf_get _ _ _ _ (by omega)])
        have hs4 : Sl .i64 w4 v2 m2 q2 := by
          rcases o2 with ⟨rfl, rfl⟩ | ⟨g2, cap2, rfl, hg2, hcap2, r2⟩
          · exact ⟨none, 0, rfl, Nat.le_refl _, by omega, fun _ => rfl, .inl rfl⟩
          · have hlt2 := r2.lt
            have hbk : w4.heap[g2]? = w2.heap[g2]? := (hgrow4.block _ (by simp; omega) (fun e => by have := hlt4 g2 e.symm; omega)).trans (Below.heap_alloc w2 _ _ (by omega))
            exact ((r2.block hbk).own (Nat.le_refl _) hcap2).sl
        have hb4 : Below w1.heap.size w1 w4 := ((hbel.trans (Below.mono b2 hszr)).alloc (by omega) _).grown hgrow4 (by simp; omega) (fun j hj => (hrow.lt j hj).1)
        have hlen : lenOf v4 = k + 1 := by
          rcases hown5 with ⟨h, h'⟩ | ⟨g, cp, h, _⟩
          · omega
          · rw [h]; rfl
        have hlen0 : lenOf u4 = k := by
          rcases hown with ⟨h, h'⟩ | ⟨g, cp, h, _⟩
          · rw [h, h']; rfl
          · rw [h]; rfl
        have HL := hide hlen
        have HL0 := hide hlen0
        clear hown4 hgrow4 hx4 hrow hown hown2 hlt4 hlen hlen0 o2 hbel b2
        go_wp2_with fail
        go_roundw
        case rel => exact ⟨m2, k + 1, q2, _, hs4, c2, by omega, hown5, hb4, by omega, by rw [unhide HS2]; exact HST⟩
        case measure => rw [unhide HL, unhide HL0]; omega

end Go.Proofs.YtfnlillhbkoeiaaDoor
