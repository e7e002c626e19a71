/-
  What is proved here: plain facts on multiplying digit by digit to the base 65536; no walk. the document's own mul on limbs of 16 bits.
-/
import Derived.Test.YtjbocfhmfidjjaaDoorRef5
namespace Go.Proofs.YtjbocfhmfidjjaaDoor
open Go Go.RowKit

/-- Behind k digits: the row from 'off' on holds f's digits and x times h's, but for the carry c. -/
def TimesB (f h : Nat → Nat) (x off n k : Nat) (f' : Nat → Nat) (c : Nat) : Prop :=
  c < 65536 ∧ (∀ i, ¬ (off ≤ i ∧ i < off + k) → f' i = f i) ∧ (∀ i, i < n → f' (off + i) < 65536) ∧
  num 65536 (fun i => f' (off + i)) k + c * 65536 ^ k = num 65536 (fun i => f (off + i)) k + x * num 65536 h k

theorem TimesB.start {f h : Nat → Nat} {x off n : Nat} (hf : ∀ i, i < n → f (off + i) < 65536) : TimesB f h x off n 0 f 0 :=
  ⟨by omega, fun _ _ => rfl, hf, by simp [num]⟩

theorem timesB_small {x y z c : Nat} (hx : x < 65536) (hy : y < 65536) (hz : z < 65536) (hc : c < 65536) : z + x * y + c < 4294967296 := by
  have : x * y ≤ 65535 * 65535 := Nat.mul_le_mul (by omega) (by omega)
  omega

theorem TimesB.step {f h f' : Nat → Nat} {x off n k c y z : Nat} (r : TimesB f h x off n k f' c) (_hk : k < n) (hx : x < 65536) (hz : f' (off + k) = z) (hy : h k = y) (hyl : y < 65536) :
    TimesB f h x off n (k + 1) (upd f' (off + k) ((z + x * y + c) % 65536)) ((z + x * y + c) / 65536) := by
  obtain ⟨h1, h2, h3, h4⟩ := r
  have hzl : z < 65536 := by rw [← hz]; exact h3 k (by omega)
  have hs := timesB_small hx hyl hzl h1
  refine ⟨by omega, fun i hi => ?_, fun i hi => ?_, ?_⟩
  · rw [upd_other (by omega)]
    exact h2 i (by omega)
  · by_cases e : i = k
    · rw [e, upd_same]; exact Nat.mod_lt _ (by decide)
    · rw [upd_other (by omega)]; exact h3 i hi
  · rw [num_succ, num_succ, num_succ, upd_same]
    rw [num_congr (g := fun i => f' (off + i)) (fun i hi => upd_other (by omega))]
    have e1 : f (off + k) = z := by rw [← hz]; exact (h2 _ (by omega)).symm
    rw [e1, hy, Nat.pow_succ]
    generalize 65536 ^ k = P at *
    generalize hS : z + x * y + c = S at *
    have e2 : S % 65536 * P + S / 65536 * (P * 65536) = S * P := by
      rw [Nat.mul_comm P, ← Nat.mul_assoc, ← Nat.add_mul, Nat.mul_comm _ 65536, Nat.mod_add_div]
    have e4 : S * P = z * P + x * y * P + c * P := by rw [← hS, Nat.add_mul, Nat.add_mul]
    have e3 : x * (num 65536 h k + y * P) = x * num 65536 h k + x * y * P := by
      rw [Nat.mul_add, ← Nat.mul_assoc]
    rw [e3]
    omega

theorem timesB_row {f h f' : Nat → Nat} {x i N n A b : Nat} (r : TimesB f h x i n n f' A) (hN : i + n + 1 ≤ N) (hz : ∀ j, i + n ≤ j → f j = 0) (hb : num 65536 f N = b) :
    num 65536 (upd f' (i + n) A) N = b + x * num 65536 h n * 65536 ^ i ∧ (∀ j, i + n + 1 ≤ j → upd f' (i + n) A j = 0) := by
  obtain ⟨h1, h2, h3, h4⟩ := r
  have hz' : ∀ j, i + n + 1 ≤ j → upd f' (i + n) A j = 0 := fun j hj => by
    rw [upd_other (by omega), h2 j (by omega)]
    exact hz j (by omega)
  refine ⟨?_, hz'⟩
  rw [num_tail (n := i + n + 1) hN (fun j hj _ => hz' j hj), num_succ, upd_same, num_split]
  rw [num_tail (n := i + n) (by omega) (fun j hj _ => hz j hj), num_split] at hb
  rw [num_congr (g := f) (n := i) (fun j hj => by rw [upd_other (by omega)]; exact h2 j (by omega))]
  rw [num_congr (f := fun j => upd f' (i + n) A (i + j)) (g := fun j => f' (i + j)) (n := n) (fun j hj => upd_other (by omega))]
  rw [← hb, Nat.pow_add]
  have e : 65536 ^ i * (num 65536 (fun j => f' (i + j)) n + A * 65536 ^ n) = 65536 ^ i * (num 65536 (fun j => f (i + j)) n + x * num 65536 h n) := by rw [h4]
  rw [Nat.mul_add, Nat.mul_add] at e
  have e2 : A * (65536 ^ i * 65536 ^ n) = 65536 ^ i * (A * 65536 ^ n) := by
    rw [← Nat.mul_assoc, Nat.mul_comm A, Nat.mul_assoc]
  have e3 : x * num 65536 h n * 65536 ^ i = 65536 ^ i * (x * num 65536 h n) := Nat.mul_comm _ _
  rw [e2, e3]
  omega

set_option maxRecDepth 4000 in
set_option maxHeartbeats 4000000 in
theorem rmul_any (v u : Value) (n m : Nat) (f g : Nat → Nat) (w : World) (hv : Sl .i64 w v n f) (hu : Sl .i64 w u m g) (hf : ∀ i, i < n → f i < 65536) (hg : ∀ i, i < m → g i < 65536) (hn : n ≤ 1000000000000) (hm : m ≤ 1000000000000) :
    Calls Tryd.prog 80 #[v, u] w fun e w' => Hid (∃ n' f' v', e = .returned v' ∧ Own .i64 3 w' w.heap.size v' n' f' ∧ Below w.heap.size w w' ∧ Can 65536 f' n' ∧ n' ≤ n + m + 1 ∧ num 65536 f' n' = num 65536 f n * num 65536 g m) := by
  obtain ⟨ao, cap, rfl, h1, h2, h0, h3⟩ := hv
  obtain ⟨bo, capb, rfl, q1, q2, q0, q3⟩ := hu
  clear h0 q0
  go_enter Tryd.func80, Tryd.ntmps80
  go_wp2_with (at_make; refine wpList_mkI rfl _ _ rfl .i64 .i64 _ _ (n + m + 1) rfl rfl (by omega) (by omega) (by omega) ?_; intro w1 hr1 hb1)
  go_loopw [6] (fun t6 wr => ∃ (i : Nat) (f' : Nat → Nat), i ≤ n ∧ t6 = .int .i64 i ∧ RowAt .i64 3 wr w.heap.size (n + m + 1) (n + m + 1) f' ∧ Below w.heap.size w wr ∧ (∀ i, i < n + m + 1 → f' i < 65536) ∧ (∀ j, i + m ≤ j → f' j = 0) ∧ num 65536 f' (n + m + 1) = num 65536 f i * num 65536 g m) (fun t6 _ => n - (intOf t6).toNat)
  case atStart => exact ⟨0, fun _ => 0, Nat.zero_le _, rfl, hr1, hb1, fun _ _ => (by decide : (0 : Nat) < 65536), fun _ _ => rfl, by rw [num_tail (n := 0) (by omega) (fun _ _ _ => rfl)]; simp [num]⟩
  case round =>
    obtain ⟨i, f', hi, rfl, hr, hb, hd, hz, hsum⟩ := hrel
    have HSUM := hide hsum
    clear hsum hr1 hb1
    by_cases hin : i < n
    · rcases h3 with h3 | ⟨ba, offa, rfl, hca⟩
      · omega
      have hxl := hf i hin
      have hbaw : ba < w.heap.size := Rd.lt hca (by omega)
      have hcax := hca i hin
      have HM := hide (show num 65536 f (i + 1) * num 65536 g m = num 65536 f i * num 65536 g m + f i * num 65536 g m * 65536 ^ i by
        rw [num_succ, Nat.add_mul, Nat.mul_assoc (f i), Nat.mul_comm (65536 ^ i), ← Nat.mul_assoc])
      clear hca
      generalize f i = x at *
      go_wp2_with fail
      go_loopw [7, 8] (fun t7 t8 wx => ∃ (k c : Nat) (f2 : Nat → Nat), k ≤ m ∧ t8 = .int .i64 k ∧ t7 = .int .i64 c ∧ RowAt .i64 3 wx w.heap.size (n + m + 1) (n + m + 1) f2 ∧ Below w.heap.size w wx ∧ TimesB f' g x i m k f2 c) (fun _ t8 _ => m - (intOf t8).toNat)
      case atStart => exact ⟨0, 0, f', Nat.zero_le _, rfl, rfl, hr, hb, TimesB.start (fun j hj => hd _ (by omega))⟩
      case round =>
        obtain ⟨k, c, f2, hk, rfl, rfl, r2, b2, ht⟩ := hrel
        have hcl : c < 65536 := ht.1
        by_cases hkm : k < m
        · rcases q3 with q3 | ⟨bb, offb, rfl, hcb⟩
          · omega
          have hyl := hg k hkm
          have hcx := (b2.cell (p := ⟨ba, offa + i, none⟩) hbaw).trans hcax
          have hcy := (b2.cell (p := ⟨bb, offb + k, none⟩) (Rd.lt hcb (by omega))).trans (hcb k hkm)
          have hcz := r2.cell (i := i + k) (by omega)
          have hfr := r2.free (i + k)
          have hzl : f2 (i + k) < 65536 := ht.2.2.1 k hkm
          have HS := hide (ht.step hkm hxl (z := f2 (i + k)) (y := g k) rfl rfl hyl)
          have HR2 := hide r2
          have i1 : (0 : Int) ≤ (i : Int) := by omega
          have i2 : (i : Int) < (n : Int) := by omega
          have i3 : (0 : Int) ≤ (k : Int) := by omega
          have i4 : (k : Int) < (m : Int) := by omega
          have i5 : (0 : Int) ≤ (i : Int) + (k : Int) := by omega
          have i6 : (i : Int) + (k : Int) < (n : Int) + (m : Int) + 1 := by omega
          have hw0 : IntKind.i64.wrap ((i : Int) + (k : Int)) = ((i + k : Nat) : Int) := by rw [wrap_i64 _ (by omega) (by omega)]; simp
          clear ht r2 hcb hf hg hd hz hr hb hcax
          generalize f2 (i + k) = z at *
          generalize g k = y at *
          have hsm := timesB_small hxl hyl hzl hcl
          have hw1 : IntKind.i64.wrap ((x : Int) * (y : Int)) = ((x * y : Nat) : Int) := by
            rw [← Int.natCast_mul]
            exact wrap_i64 _ (by omega) (by omega)
          generalize x * y = p at *
          go_wp2
          go_region
          all_goals go_wp2
          all_goals go_roundw
          case rel =>
            have e1 : ((z : Int) + (p : Int) + (c : Int)) % 65536 = (((z + p + c) % 65536 : Nat) : Int) := by omega
            rw [e1]
            exact ⟨k + 1, _, _, by omega, by go_num, by go_num, (unhide HR2).set (by omega) _, (b2.setCell (Nat.le_refl _) _).drew, unhide HS⟩
          case measure => simp [intOf]; omega
        · obtain rfl : k = m := by omega
          have hz2 : f2 (i + k) = 0 := by rw [ht.2.1 _ (by omega)]; exact hz _ (Nat.le_refl _)
          obtain ⟨t1, t2⟩ := timesB_row (N := n + k + 1) ht (by omega) hz rfl
          have HT1 := hide t1
          have HT2 := hide t2
          have HD := hide (fun j (hj : j < n + k + 1) => show upd f2 (i + k) c j < 65536 by
            by_cases e : j = i + k
            · rw [e, upd_same]; exact hcl
            · rw [upd_other e]
              by_cases e2 : i ≤ j ∧ j < i + k
              · have := ht.2.2.1 (j - i) (by omega)
                rwa [show i + (j - i) = j from by omega] at this
              · rw [ht.2.1 j e2]; exact hd j hj)
          have hcz := r2.cell (i := i + k) (by omega)
          have hfr := r2.free (i + k)
          rw [hz2] at hcz
          have HZ2 := hide hz2
          have HR2 := hide r2
          clear t1 t2 ht hz2 r2 hr hb hd hz
          by_cases hc0 : c = 0
          · subst hc0
            have HC := hide (fun j (_ : j < n + k + 1) => show upd f2 (i + k) 0 j = f2 j by
              by_cases e : j = i + k
              · rw [e, upd_same]; exact (unhide HZ2).symm
              · exact upd_other e)
            go_wp2_with fail
            refine wp_loop_rounds 1 ?_
            rw [rounds_succ]
            go_wp2_with fail
            go_roundw
            case rel => exact ⟨i + 1, upd f2 (i + k) 0, by omega, by go_num, (unhide HR2).congr (fun j hj => (unhide HC j hj).symm), b2, unhide HD, fun j hj => unhide HT2 j (by omega), by rw [unhide HT1, unhide HSUM, unhide HM]⟩
            case measure => simp [intOf]; omega
          · have hcp : (0 : Int) < (c : Int) := by omega
            go_wp2_with fail
            refine wp_loop_rounds 2 ?_
            rw [rounds_succ]
            go_wp2_with fail
            rw [rounds_succ]
            go_wp2_with fail
            go_roundw
            case rel => exact ⟨i + 1, upd f2 (i + k) c, by omega, by go_num, by
              have := (unhide HR2).set (i := i + k) (by omega) c
              first | exact this | (rw [show ((c : Int) % 65536) = (c : Int) from by omega]; exact this), b2.setCell (Nat.le_refl _) _, unhide HD, fun j hj => unhide HT2 j (by omega), by rw [unhide HT1, unhide HSUM, unhide HM]⟩
            case measure => simp [intOf]; omega
    · obtain rfl : i = n := by omega
      go_wp2_with fail
      refine (rtrim_any _ _ f' _ ((hr.own (Nat.le_refl w.heap.size) (by omega)).sl) (by omega)).mono ?_
      rintro e w5 ⟨p, v5, rfl, o5, b5, l5, z5, t5⟩
      have hsz := hb.size
      go_wp2_with fail
      go_ret
      exact hide ⟨p, f', v5, rfl, o5.mono (by omega), hb.trans (b5.mono (by omega)), ⟨fun j hj => hd j (by omega), t5⟩, l5, by rw [← num_tail l5 z5]; exact unhide HSUM⟩

end Go.Proofs.YtjbocfhmfidjjaaDoor
