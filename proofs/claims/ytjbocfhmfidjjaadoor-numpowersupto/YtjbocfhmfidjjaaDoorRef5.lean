/-
  What is proved here: plain facts on limbs of 32 and of 16 bits; no walk. the document's own trim, half, full, at and add, as plain arithmetic on limbs of 16 bits. the document's own half and full: limbs of 32 bits as limbs of 16, and back. the document's own cmp and sub on limbs of 16 bits. the document's own sub on limbs of 16 bits. the document's own Cmp, Sub and Add on limbs of 32 bits.
-/
import Derived.Test.YtjbocfhmfidjjaaDoorAdd
import Derived.Test.YtjbocfhmfidjjaaDoorParse
import Derived.Deep.RegionHeld3
import Derived.Deep.AppendLies
import Derived.Test.YtjbocfhmfidjjaaDoorMul
import Derived.Test.YtjbocfhmfidjjaaDoorText
import Derived.Test.YtjbocfhmfidjjaaDoorCmp
import Derived.Test.YtjbocfhmfidjjaaDoorUp0
namespace Go.Proofs.YtjbocfhmfidjjaaDoor
open Go Go.RowKit

/-- The halves of limbs: the low one, then the high one. -/
def hv (f : Nat → Nat) : Nat → Nat := fun i => if i % 2 = 0 then f (i / 2) % 65536 else f (i / 2) / 65536
theorem hv_lo (f : Nat → Nat) (k : Nat) : hv f (2 * k) = f k % 65536 := by
  unfold hv; rw [if_pos (by omega), show 2 * k / 2 = k from by omega]
theorem hv_hi (f : Nat → Nat) (k : Nat) : hv f (2 * k + 1) = f k / 65536 := by
  unfold hv; rw [if_neg (by omega), show (2 * k + 1) / 2 = k from by omega]
theorem hv_lt {f : Nat → Nat} {n : Nat} (hf : ∀ i, i < n → f i < 4294967296) : ∀ i, i < 2 * n → hv f i < 65536 := by
  intro i hi
  have := hf (i / 2) (by omega)
  unfold hv
  split <;> omega
/-- Pairs of halves are limbs. -/
theorem num_pairs (h F : Nat → Nat) (k : Nat) (hF : ∀ j, j < k → F j = h (2 * j) + h (2 * j + 1) * 65536) : num 65536 h (2 * k) = num 4294967296 F k := by
  induction k with
  | zero => rfl
  | succ k ih =>
    rw [show 2 * (k + 1) = 2 * k + 1 + 1 from by omega, num_succ, num_succ, ih (fun j hj => hF j (by omega)), num_succ, hF k (by omega)]
    have e : (4294967296 : Nat) ^ k = 65536 ^ (2 * k) := by rw [Nat.pow_mul]
    rw [e, Nat.pow_succ, Nat.add_mul]
    generalize 65536 ^ (2 * k) = P
    have e2 : h (2 * k + 1) * 65536 * P = h (2 * k + 1) * (P * 65536) := by rw [Nat.mul_assoc, Nat.mul_comm 65536 P]
    omega
theorem num_hv (f : Nat → Nat) (k : Nat) : num 65536 (hv f) (2 * k) = num 4294967296 f k :=
  num_pairs (hv f) f k (fun j _ => by rw [hv_lo, hv_hi]; omega)

/-- Adding to any base, digit by digit, into a new row. -/
def SumRel (B : Nat) (f g S : Nat → Nat) (k c : Nat) : Prop :=
  c ≤ 1 ∧ (∀ i, i < k → S i < B) ∧ num B S k + c * B ^ k = num B f k + num B g k
theorem SumRel.step {B : Nat} {f g S : Nat → Nat} {k c x y : Nat} (r : SumRel B f g S k c) (hB : 1 < B) (hx : f k = x) (hy : g k = y) (hxl : x < B) (hyl : y < B) :
    SumRel B f g (upd S k ((x + y + c) % B)) (k + 1) ((x + y + c) / B) := by
  obtain ⟨h1, h2, h3⟩ := r
  refine ⟨?_, fun i hi => ?_, ?_⟩
  · have : x + y + c < 2 * B := by omega
    have := (Nat.div_lt_iff_lt_mul (show 0 < B by omega)).2 this
    omega
  · by_cases e : i = k
    · rw [e, upd_same]; exact Nat.mod_lt _ (by omega)
    · rw [upd_other e]; exact h2 i (by omega)
  · rw [num_succ, num_succ, num_succ, upd_same, num_congr (g := S) (fun i hi => upd_other (by omega)), hx, hy, Nat.pow_succ]
    generalize B ^ k = P at *
    have e2 : (x + y + c) % B * P + (x + y + c) / B * (P * B) = (x + y + c) * P := by
      rw [Nat.mul_comm P, ← Nat.mul_assoc, ← Nat.add_mul, Nat.mul_comm _ B, Nat.mod_add_div]
    rw [Nat.add_mul (x + y), Nat.add_mul x] at e2
    omega

/-- Taking, digit by digit, into a new row. -/
def DifRel (B : Nat) (f g S : Nat → Nat) (k c : Nat) : Prop :=
  c ≤ 1 ∧ (∀ i, i < k → S i < B) ∧ num B S k + num B g k = num B f k + c * B ^ k
theorem DifRel.step {B : Nat} {f g S : Nat → Nat} {k c x y d b : Nat} (r : DifRel B f g S k c) (hx : f k = x) (hy : g k = y) (hd : d < B) (hb : b ≤ 1) (hs : d + y + c = x + B * b) :
    DifRel B f g (upd S k d) (k + 1) b := by
  obtain ⟨h1, h2, h3⟩ := r
  refine ⟨hb, fun i hi => ?_, ?_⟩
  · by_cases e : i = k
    · rw [e, upd_same]; exact hd
    · rw [upd_other e]; exact h2 i (by omega)
  · rw [num_succ, num_succ, num_succ, upd_same, num_congr (g := S) (fun i hi => upd_other (by omega)), hx, hy, Nat.pow_succ]
    generalize B ^ k = P at *
    have e2 : (d + y + c) * P = (x + B * b) * P := by rw [hs]
    rw [Nat.add_mul, Nat.add_mul, Nat.add_mul] at e2
    have e3 : B * b * P = b * (P * B) := by rw [Nat.mul_comm B b, Nat.mul_assoc, Nat.mul_comm B P]
    omega

theorem own_push {k : IntKind} {E : TypeId} {w : World} {base : Nat} {v : Value} {n x : Nat} {S : Nat → Nat} (h : w.ownsRow base E 1 v (n + 1) (cellsOf k S n ++ [Value.int k (x : Int)])) : Own k E w base v (n + 1) (upd S n x) :=
  Own.of_row h (fun j hj => by
    by_cases e : j = n
    · subst e
      rw [upd_same, List.getElem?_append_right (by rw [cellsOf_length]; exact Nat.le_refl _), cellsOf_length]
      simp
    · rw [upd_other e, List.getElem?_append_left (by rw [cellsOf_length]; omega), cellsOf_get _ _ _ _ (by omega)])
theorem own_push2 {k : IntKind} {E : TypeId} {w : World} {base : Nat} {v : Value} {n x y : Nat} {S : Nat → Nat} (h : w.ownsRow base E 1 v (n + 2) (cellsOf k S n ++ [Value.int k (x : Int), Value.int k (y : Int)])) (hx : S n = x) (hy : S (n + 1) = y) : Own k E w base v (n + 2) S :=
  Own.of_row h (fun j hj => by
    by_cases e : j < n
    · rw [List.getElem?_append_left (by rw [cellsOf_length]; omega), cellsOf_get _ _ _ _ e]
    · rw [List.getElem?_append_right (by rw [cellsOf_length]; omega), cellsOf_length]
      by_cases e2 : j = n
      · subst e2; simp [hx]
      · obtain rfl : j = n + 1 := by omega
        simp [hy])

set_option maxRecDepth 4000 in
set_option maxHeartbeats 1000000 in
theorem rtrim_hid (v : Value) (n : Nat) (f : Nat → Nat) (w : World) (hv : Sl .i64 w v n f) (hn : 8 * n ≤ 140737488355328) :
    Calls Tryd.prog 86 #[v] w fun e w' => Hid (∃ m v', e = .returned v' ∧ Own .i64 3 w' w.heap.size v' m f ∧ Below w.heap.size w w' ∧ m ≤ n ∧ (∀ i, m ≤ i → i < n → f i = 0) ∧ (m = 0 ∨ f (m - 1) ≠ 0)) := by
  obtain ⟨i, hi, hz0, hz1, hz2⟩ := info_parts infoI
  have hnil := World.ownsRow_nil w w.heap.size 3 1
  obtain ⟨ao, cap, rfl, h1, h2, h0, h3⟩ := hv
  by_cases hn0 : n = 0
  · subst hn0
    cases ao with
    | none =>
      obtain rfl := h0 rfl
      go_enter Tryd.func86, Tryd.ntmps86
      go_wp2
      refine wp_loop_rounds 1 ?_
      rw [rounds_succ]
      go_wp2_with (at_builtin; refine wpList_append_own_none rfl _ _ 88 rfl w.heap.size 3 i 1 Tryd.underlying88 hi _ _ _ rfl hnil rfl ?_)
      go_ret
      exact hide ⟨0, _, rfl, .inl ⟨rfl, rfl⟩, Below.refl _ _, Nat.le_refl _, fun i _ hi => by omega, .inl rfl⟩
    | some ad =>
      go_enter Tryd.func86, Tryd.ntmps86
      go_wp2
      refine wp_loop_rounds 1 ?_
      rw [rounds_succ]
      go_wp2_with (at_builtin; refine wpList_append_own _ rfl _ _ 88 rfl w.heap.size 3 i (.int .i64 0) 1 8 Tryd.underlying88 hi hz0 hz1 hz2 rfl (by decide) _ _ _ rfl hnil ad 0 _ [] rfl rfl (fun j u hj => by simp at hj) (fun u hu => by simp at hu) (by unfold maxLen; omega) (by omega) (Nat.le_refl _) ?_; intro v' w1 hown hgrow hx; simp only [Nat.zero_add, List.nil_append] at hown)
      go_ret
      refine hide ⟨0, v', rfl, Own.of_row hown (fun j hj => by omega), Below.of_grown hgrow, ?_⟩
      simp
  · rcases h3 with h3 | ⟨b, off, rfl, hc⟩
    · exact absurd h3 hn0
    go_enter Tryd.func86, Tryd.ntmps86
    go_wp2
    go_loop [3] (fun t => ∃ k : Nat, k ≤ n ∧ t = .int .i64 k ∧ ∀ i, k ≤ i → i < n → f i = 0) (fun t => (intOf t).toNat)
    case atStart => exact ⟨n, Nat.le_refl _, rfl, fun i h1 h2 => by omega⟩
    case round =>
      obtain ⟨k, hk, rfl, hz⟩ := hrel
      have hcs := cellsOf_length .i64 f k
      have hcl := cellsOf_read (n := k) (fun i hi => hc i (by omega))
      by_cases hk0 : 0 < k
      · have hx := hc (k - 1) (by omega)
        clear hc
        by_cases he : f (k - 1) = 0
        · have HE : Hid (f (k - 1) = 0) := he
          rw [he] at hx
          clear he
          go_wp2_with fail
          go_round
          case rel => exact ⟨k - 1, by omega, by go_num, fun i h1 h2 => by
            by_cases e : i = k - 1
            · rw [e]; exact HE.out
            · exact hz i (by omega) h2⟩
          case measure => simp [intOf]; omega
        · have hb : ((f (k - 1) : Int) == 0) = false := by simp; omega
          have HE := hide he
          generalize f (k - 1) = y at hx hb
          clear he
          go_wp2_with (at_builtin; refine wpList_append_own _ rfl _ _ 88 rfl w.heap.size 3 i (.int .i64 0) 1 8 Tryd.underlying88 hi hz0 hz1 hz2 rfl (by decide) _ _ _ rfl hnil ⟨b, off, none⟩ k _ (cellsOf .i64 f k) rfl (by rw [hcs]; omega) hcl (cellsOf_one _ _ _) (by unfold maxLen; omega) (by omega) (Nat.le_refl _) ?_; intro v' w1 hown hgrow hx'; simp only [Nat.zero_add, List.nil_append] at hown)
          go_ret
          exact hide ⟨k, v', rfl, Own.of_row hown (fun j hj => cellsOf_get _ _ _ _ hj), Below.of_grown hgrow, hk, hz, .inr (unhide HE)⟩
      · have e0 : k = 0 := by omega
        subst e0
        go_wp2_with (at_builtin; refine wpList_append_own _ rfl _ _ 88 rfl w.heap.size 3 i (.int .i64 0) 1 8 Tryd.underlying88 hi hz0 hz1 hz2 rfl (by decide) _ _ _ rfl hnil ⟨b, off, none⟩ 0 _ [] rfl rfl (fun j u hj => by simp at hj) (fun u hu => by simp at hu) (by unfold maxLen; omega) (by omega) (Nat.le_refl _) ?_; intro v' w1 hown hgrow hx'; simp only [Nat.zero_add, List.nil_append] at hown)
        go_ret
        exact hide ⟨0, v', rfl, Own.of_row hown (fun j hj => by omega), Below.of_grown hgrow, by omega, hz, .inl rfl⟩

theorem rtrim_any (v : Value) (n : Nat) (f : Nat → Nat) (w : World) (hv : Sl .i64 w v n f) (hn : 8 * n ≤ 140737488355328) :
    Calls Tryd.prog 86 #[v] w fun e w' => ∃ m v', e = .returned v' ∧ Own .i64 3 w' w.heap.size v' m f ∧ Below w.heap.size w w' ∧ m ≤ n ∧ (∀ i, m ≤ i → i < n → f i = 0) ∧ (m = 0 ∨ f (m - 1) ≠ 0) :=
  (rtrim_hid v n f w hv hn).mono fun _ _ h => unhide h

set_option maxRecDepth 4000 in
set_option maxHeartbeats 400000 in
theorem at_any (v : Value) (n i : Nat) (f : Nat → Nat) (w : World) (hv : Sl .i64 w v n f) (hi : i ≤ 9223372036854775807) :
    Calls Tryd.prog 106 #[v, .int .i64 i] w fun e w' => e = .returned (.int .i64 (cut f n i : Nat)) ∧ w' = w := by
  obtain ⟨ao, cap, rfl, h1, h2, h0, h3⟩ := hv
  by_cases hlt : i < n
  · rcases h3 with h3 | ⟨b, off, rfl, hc⟩
    · omega
    have hx := hc i hlt
    rw [cut_in hlt]
    clear hc
    go_enter Tryd.func106, Tryd.ntmps106
    go_wp2
    go_ret
    exact ⟨rfl, rfl⟩
  · rw [cut_out (by omega)]
    go_enter Tryd.func106, Tryd.ntmps106
    go_wp2
    go_ret
    exact ⟨rfl, rfl⟩

set_option maxRecDepth 4000 in
set_option maxHeartbeats 2000000 in
theorem radd_any (v u : Value) (n m : Nat) (f g : Nat → Nat) (w : World) (hv : Sl .i64 w v n f) (hu : Sl .i64 w u m g) (hf : ∀ i, i < n → f i < 65536) (hg : ∀ i, i < m → g i < 65536) (hn : n ≤ 1000000000000) (hm : m ≤ 1000000000000) :
    Calls Tryd.prog 96 #[v, u] w fun e w' => ∃ n' f' v', e = .returned v' ∧ Own .i64 3 w' w.heap.size v' n' f' ∧ Below w.heap.size w w' ∧ Can 65536 f' n' ∧ (n' ≤ n + 1 ∨ n' ≤ m + 1) ∧ num 65536 f' n' = num 65536 f n + num 65536 g m := by
  obtain ⟨i, hi, hz0, hz1, hz2⟩ := info_parts infoI
  obtain ⟨ao, cap, ev, -⟩ := id hv
  obtain ⟨bo, capb, eu, -⟩ := id hu
  subst ev eu
  have cf : ∀ i, cut f n i < 65536 := fun i => by by_cases h : i < n; rw [cut_in h]; exact hf i h; rw [cut_out (by omega)]; decide
  have cg : ∀ i, cut g m i < 65536 := fun i => by by_cases h : i < m; rw [cut_in h]; exact hg i h; rw [cut_out (by omega)]; decide
  go_enter Tryd.func96, Tryd.ntmps96
  go_wp2_with fail
  go_loopw [5, 6, 7] (fun u5 t6 t7 wr => ∃ (k c : Nat) (S : Nat → Nat), (k ≤ n ∨ k ≤ m) ∧ t7 = .int .i64 k ∧ t6 = .int .i64 c ∧ Own .i64 3 wr w.heap.size u5 k S ∧ Below w.heap.size w wr ∧ SumRel 65536 (cut f n) (cut g m) S k c) (fun _ _ t7 _ => n + m - (intOf t7).toNat)
  case atStart => exact ⟨0, 0, fun _ => 0, .inl (by omega), rfl, rfl, .inl ⟨rfl, rfl⟩, Below.refl _ _, ⟨by omega, fun i hi => by omega, by simp [num]⟩⟩
  case round =>
    obtain ⟨k, c, S, hk, rfl, rfl, hown, hbel, hrl⟩ := hrel
    have hrow := hown.row
    have hsz := hbel.size
    have hc1 : c ≤ 1 := hrl.1
    have hvr := hv.below hbel (Nat.le_refl _)
    have hur := hu.below hbel (Nat.le_refl _)
    by_cases hlt : k < n ∨ k < m
    · have hx := cf k
      have hy := cg k
      have HS := hide (hrl.step (by decide) rfl rfl hx hy)
      have hguard : (decide (k < n) || decide (k < m)) = true := by simp; exact hlt
      clear hrl cf cg hf hg
      have hend : ∀ (v4 : Value) (w4 : World), w4.ownsRow w.heap.size 3 1 v4 (k + 1) (cellsOf .i64 S k ++ [Value.int .i64 ((cut f n k + cut g m k + c) % 65536 : Nat)]) → Own .i64 3 w4 w.heap.size v4 (k + 1) (upd S k ((cut f n k + cut g m k + c) % 65536)) := fun v4 w4 h => own_push h
      have HEND := hide hend
      have HA := hide (fun (w' : World) (h : Sl .i64 w' (Value.slice ao n cap) n f) => at_any _ n k f w' h (by omega))
      have HB := hide (fun (w' : World) (h : Sl .i64 w' (Value.slice bo m capb) m g) => at_any _ m k g w' h (by omega))
      clear hend
      generalize cut f n k = x at *
      generalize cut g m k = y at *
      have hpush : (((x : Int) + (y : Int) + (c : Int)) % 65536) = (((x + y + c) % 65536 : Nat) : Int) := by omega
      have HP := hide hpush
      clear hpush
      by_cases hkn : k < n
      all_goals
        go_wp2_with fail
        refine (unhide HA _ hvr).mono ?_
        rintro e w' ⟨rfl, rfl⟩
        go_wp2_with fail
        refine (unhide HB _ hur).mono ?_
        rintro e w' ⟨rfl, rfl⟩
        go_wp2_with (at_builtin; refine wpList_append_own _ rfl _ _ 88 rfl w.heap.size 3 i (.int .i64 0) 1 8 Tryd.underlying88 hi hz0 hz1 hz2 rfl (by decide) _ _ _ rfl (hrow.alloc _) ⟨w'.heap.size, 0, none⟩ 1 1 [.int .i64 (((x : Int) + (y : Int) + (c : Int)) % 65536)] rfl rfl (cells_one _ _ _) (fun u hu => by simp at hu; subst hu; rfl) (by unfold maxLen; omega) (by omega) (by simp; omega) ?_; intro v4 w4 hown4 hgrow4 hx4; rw [unhide HP] at hown4; have ho5 := unhide HEND v4 w4 hown4; have hb5 := (hbel.alloc (by omega) _).grown hgrow4 (by simp; omega) (fun j hj => (hrow.lt j hj).1); clear hown4 hgrow4 hx4 hrow hown)
        go_roundw
        case rel => exact ⟨k + 1, _, _, by omega, by go_num, by go_num, ho5, hb5, unhide HS⟩
        case measure => simp [intOf]; omega
    · have e1 : num 65536 (cut f n) k = num 65536 f n := num_cut (by omega)
      have e2 : num 65536 (cut g m) k = num 65536 g m := num_cut (by omega)
      obtain ⟨r1, r2, r3⟩ := hrl
      rw [e1, e2] at r3
      have HR3 := hide r3
      clear e1 e2 r3 cf cg hf hg
      go_wp2_with (at_builtin; refine wpList_append_own _ rfl _ _ 88 rfl w.heap.size 3 i (.int .i64 0) 1 8 Tryd.underlying88 hi hz0 hz1 hz2 rfl (by decide) _ _ _ rfl (hrow.alloc _) ⟨wr.heap.size, 0, none⟩ 1 1 [.int .i64 c] rfl rfl (cells_one _ _ _) (fun u hu => by simp at hu; subst hu; rfl) (by unfold maxLen; omega) (by omega) (by simp; omega) ?_; intro v4 w4 hown4 hgrow4 hx4; have ho5 := own_push hown4; have hb5 := (hbel.alloc (by omega) _).grown hgrow4 (by simp; omega) (fun j hj => (hrow.lt j hj).1); clear hown4 hgrow4 hx4 hrow hown)
      refine (rtrim_any _ (k + 1) _ _ ho5.sl (by omega)).mono ?_
      rintro e w5 ⟨p, v5, rfl, o5, b5, l5, z5, t5⟩
      have hz6 := hb5.size
      go_wp2_with fail
      go_ret
      refine ⟨p, _, v5, rfl, o5.mono (by omega), hb5.trans (b5.mono (by omega)), ⟨fun j hj => ?_, t5⟩, by omega, ?_⟩
      · by_cases e : j = k
        · rw [e, upd_same]; omega
        · rw [upd_other e]; exact r2 j (by omega)
      · rw [← num_tail l5 z5, num_succ, upd_same, num_congr (g := S) (fun j hj => upd_other (by omega))]
        exact unhide HR3

theorem half_lo (x : Nat) (h : x < 4294967296) : IntKind.i64.wrap ((x : Int).tmod 65536) = ((x % 65536 : Nat) : Int) := by
  rw [Int.tmod_eq_emod_of_nonneg (by omega)]
  simp only [IntKind.wrap, IntKind.bits, IntKind.signed]
  simp
  omega
theorem half_hi (x : Nat) (h : x < 4294967296) : IntKind.i64.wrap (IntKind.u32.wrap ((x : Int) / 65536)) = ((x / 65536 : Nat) : Int) := by
  simp only [IntKind.wrap, IntKind.bits, IntKind.signed]
  simp
  omega

set_option maxRecDepth 4000 in
set_option maxHeartbeats 2000000 in
theorem half_any (v : Value) (n : Nat) (f : Nat → Nat) (w : World) (hv : Sl .u32 w v n f) (hf : ∀ i, i < n → f i < 4294967296) (hn : n ≤ 1000000000000) :
    Calls Tryd.prog 81 #[v] w fun e w' => ∃ m h v', e = .returned v' ∧ Own .i64 3 w' w.heap.size v' m h ∧ Below w.heap.size w w' ∧ Can 65536 h m ∧ m ≤ 2 * n ∧ num 65536 h m = num 4294967296 f n := by
  obtain ⟨i, hi, hz0, hz1, hz2⟩ := info_parts infoI
  obtain ⟨ao, cap, rfl, h1, h2, h0, h3⟩ := hv
  clear h0
  go_enter Tryd.func81, Tryd.ntmps81
  go_wp2_with fail
  go_loopw [3, 4] (fun u3 t4 wr => ∃ k : Nat, k ≤ n ∧ t4 = .int .i64 k ∧ Own .i64 3 wr w.heap.size u3 (2 * k) (hv f) ∧ Below w.heap.size w wr) (fun _ t4 _ => n - (intOf t4).toNat)
  case atStart => exact ⟨0, Nat.zero_le _, rfl, .inl ⟨rfl, rfl⟩, Below.refl _ _⟩
  case round =>
    obtain ⟨k, hk, rfl, hown, hbel⟩ := hrel
    have hrow := hown.row
    have hsz := hbel.size
    by_cases hlt : k < n
    · rcases h3 with h3 | ⟨b, off, rfl, hc⟩
      · omega
      have hx := (hbel.cell (p := ⟨b, off + k, none⟩) (Rd.lt hc (by omega))).trans (hc k hlt)
      have hbw : b < w.heap.size := Rd.lt hc (by omega)
      have hxl := hf k hlt
      have HL := hide (hv_lo f k)
      have HH := hide (hv_hi f k)
      have hk0 : (0 : Int) ≤ (k : Int) := by omega
      have hkn : (k : Int) < (n : Int) := by omega
      clear hc hf
      generalize f k = x at *
      go_wp2_with fail
      go_region_held3 (fun w' => w'.cell? ⟨b, off + k, none⟩ = some (.int .u32 x)) (first | go_keep | exact hgrow4.cell (((((Below.refl wr.heap.size wr).alloc (Nat.le_refl _) _).drew).cell (p := ⟨b, off + k, none⟩) (show b < wr.heap.size by omega)).trans hx) (fun e => by have := (hrow.lt b e.symm).1; omega))
        ((refine step_append_lies _ (by rfl) _ _ 88 (by rfl) w.heap.size 3 i (.int .i64 0) 1 8 Tryd.underlying88 hi hz0 hz1 hz2 rfl (by decide) _ _ _ (by rfl) ((hrow.alloc _).drew) ⟨wr.heap.size, 0, none⟩ 2 2 [.int .i64 (IntKind.i64.wrap ((x : Int).tmod 65536)), .int .i64 (IntKind.i64.wrap (IntKind.u32.wrap ((x : Int) / 65536)))] (by rfl) rfl (World.news_of_block (cs := #[.int .i64 (IntKind.i64.wrap ((x : Int).tmod 65536)), .int .i64 (IntKind.i64.wrap (IntKind.u32.wrap ((x : Int) / 65536)))]) (t := 3) (fr := (0, 0)) (heap_alloc_new wr _)) (by simp [Value.oneCell']) (by decide) (by unfold maxLen; omega) (by omega) (by simp; omega) (wr.heap.size + 1) (by simp) ?_; intro g4 cap4 w4 hown4 hgrow4 hat4 hlt4))
      rw [half_lo x hxl, half_hi x hxl] at hown4
      have ho5 := own_push2 hown4 (unhide HL) (unhide HH)
      have hb5 : Below w.heap.size w w4 := ((hbel.alloc (by omega) _).drew).grown hgrow4 (by simp; omega) (fun j hj => (hrow.lt j hj).1)
      clear hown4 hgrow4 hat4 hrow hown hbel hx
      go_wp2_with fail
      go_roundw
      case rel => exact ⟨k + 1, by omega, by go_num, ho5, hb5⟩
      case measure => simp [intOf]; omega
    · obtain rfl : k = n := by omega
      go_wp2_with fail
      refine (rtrim_any _ (2 * k) _ _ hown.sl (by omega)).mono ?_
      rintro e w5 ⟨p, v5, rfl, o5, b5, l5, z5, t5⟩
      go_wp2_with fail
      go_ret
      exact ⟨p, _, v5, rfl, o5.mono (by omega), hbel.trans (b5.mono (by omega)), ⟨fun j hj => hv_lt hf j (by omega), t5⟩, l5, by rw [← num_tail l5 z5, num_hv]⟩

/-- Pairs of what was cut off behind p places. -/
def pr (h : Nat → Nat) (p : Nat) : Nat → Nat := fun k => cut h p (2 * k) + cut h p (2 * k + 1) * 65536
theorem pr_lt {h : Nat → Nat} {p : Nat} (hd : ∀ i, i < p → h i < 65536) : ∀ k, pr h p k < 4294967296 := by
  intro k
  have c : ∀ i, cut h p i < 65536 := fun i => by by_cases e : i < p; rw [cut_in e]; exact hd i e; rw [cut_out (by omega)]; decide
  have h1 := c (2 * k)
  have h2 := c (2 * k + 1)
  unfold pr
  omega

set_option maxRecDepth 4000 in
set_option maxHeartbeats 2000000 in
theorem full_any (v : Value) (n : Nat) (h : Nat → Nat) (w : World) (hv : Sl .i64 w v n h) (hd : ∀ i, i < n → h i < 65536) (hn : n ≤ 1000000000000) :
    Calls Tryd.prog 82 #[v] w fun e w' => ∃ m f v', e = .returned v' ∧ Own .u32 64 w' w.heap.size v' m f ∧ Below w.heap.size w w' ∧ Can 4294967296 f m ∧ m ≤ n ∧ num 4294967296 f m = num 65536 h n := by
  obtain ⟨i, hi, hz0, hz1, hz2⟩ := info_parts infoU
  go_enter Tryd.func82, Tryd.ntmps82
  go_wp2_with fail
  refine (rtrim_any _ n h _ hv (by omega)).mono ?_
  rintro e w1 ⟨p, v1, rfl, o1, b1, l1, z1, t1⟩
  have HN := hide (num_tail (B := 65536) l1 z1)
  have hpd : ∀ i, i < p → h i < 65536 := fun i hi => hd i (by omega)
  have hprl := pr_lt hpd
  obtain ⟨ao, cap, e1, q1, q2, q0, q3⟩ := o1.sl
  subst e1
  have hz1' := b1.size
  clear hd z1 hv q0
  go_wp2_with fail
  go_loopw [3, 4] (fun u3 t4 wr => ∃ k : Nat, 2 * k ≤ p + 1 ∧ t4 = .int .i64 (2 * k : Nat) ∧ Own .u32 64 wr w1.heap.size u3 k (pr h p) ∧ Below w1.heap.size w1 wr) (fun _ t4 _ => p + 1 - (intOf t4).toNat)
  case atStart => exact ⟨0, by omega, rfl, .inl ⟨rfl, rfl⟩, Below.refl _ _⟩
  case round =>
    obtain ⟨k, hk, rfl, hown, hbel⟩ := hrel
    have hrow := hown.row
    have hsz := hbel.size
    by_cases hlt : 2 * k < p
    · rcases q3 with q3 | ⟨b, off, rfl, hc⟩
      · omega
      have hx := (hbel.cell (p := ⟨b, off + 2 * k, none⟩) (Rd.lt hc (by omega))).trans (hc (2 * k) hlt)
      have hxl := hpd (2 * k) hlt
      by_cases hlt2 : 2 * k + 1 < p
      · have hy := (hbel.cell (p := ⟨b, off + (2 * k + 1), none⟩) (Rd.lt hc (by omega))).trans (hc (2 * k + 1) hlt2)
        have hyl := hpd (2 * k + 1) hlt2
        have HP := hide (show pr h p k = h (2 * k) + h (2 * k + 1) * 65536 by unfold pr; rw [cut_in hlt, cut_in hlt2])
        have HPUSH := hide (fun (v4 : Value) (w4 : World) (x : Nat) (hx : x = pr h p k) (H : w4.ownsRow w1.heap.size 64 1 v4 (k + 1) (cellsOf .u32 (pr h p) k ++ [Value.int .u32 (x : Int)])) => (own_push H).congr (f' := pr h p) (fun j hj => by by_cases e : j = k; rw [e, upd_same, hx]; rw [upd_other e]))
        clear hc hpd hprl
        generalize h (2 * k) = x at *
        generalize h (2 * k + 1) = y at *
        go_wp2_with (at_builtin; refine wpList_append_own _ rfl _ _ 24 rfl w1.heap.size 64 i (.int .u32 0) 1 4 Tryd.underlying24 hi hz0 hz1 hz2 rfl (by decide) _ _ _ rfl (hrow.alloc _) ⟨wr.heap.size, 0, none⟩ 1 1 [.int .u32 ((x : Int) + (y : Int) * 65536)] rfl rfl (cells_one _ _ _) (fun u hu => by simp at hu; subst hu; rfl) (by unfold maxLen; omega) (by omega) (by simp; omega) ?_; intro v4 w4 hown4 hgrow4 hx4)
        rw [show ((x : Int) + (y : Int) * 65536) = ((x + y * 65536 : Nat) : Int) from by simp] at hown4
        have ho5 := unhide HPUSH _ _ _ (unhide HP).symm hown4
        have hb5 := (hbel.alloc (by omega) _).grown hgrow4 (by simp; omega) (fun j hj => (hrow.lt j hj).1)
        clear hown4 hgrow4 hx4 hrow hown hbel hx hy
        go_wp2_with fail
        go_roundw
        case rel => exact ⟨k + 1, by omega, by go_num, ho5, hb5⟩
        case measure => simp [intOf]; omega
      · have HP := hide (show pr h p k = h (2 * k) by unfold pr; rw [cut_in hlt, cut_out (by omega)]; omega)
        have HPUSH := hide (fun (v4 : Value) (w4 : World) (x : Nat) (hx : x = pr h p k) (H : w4.ownsRow w1.heap.size 64 1 v4 (k + 1) (cellsOf .u32 (pr h p) k ++ [Value.int .u32 (x : Int)])) => (own_push H).congr (f' := pr h p) (fun j hj => by by_cases e : j = k; rw [e, upd_same, hx]; rw [upd_other e]))
        clear hc hpd hprl
        generalize h (2 * k) = x at *
        go_wp2_with (at_builtin; refine wpList_append_own _ rfl _ _ 24 rfl w1.heap.size 64 i (.int .u32 0) 1 4 Tryd.underlying24 hi hz0 hz1 hz2 rfl (by decide) _ _ _ rfl (hrow.alloc _) ⟨wr.heap.size, 0, none⟩ 1 1 [.int .u32 (x : Int)] rfl rfl (cells_one _ _ _) (fun u hu => by simp at hu; subst hu; rfl) (by unfold maxLen; omega) (by omega) (by simp; omega) ?_; intro v4 w4 hown4 hgrow4 hx4)
        have ho5 := unhide HPUSH _ _ _ (unhide HP).symm hown4
        have hb5 := (hbel.alloc (by omega) _).grown hgrow4 (by simp; omega) (fun j hj => (hrow.lt j hj).1)
        clear hown4 hgrow4 hx4 hrow hown hbel hx
        go_wp2_with fail
        go_roundw
        case rel => exact ⟨k + 1, by omega, by go_num, ho5, hb5⟩
        case measure => simp [intOf]; omega
    · go_wp2_with fail
      go_ret
      refine ⟨k, _, _, rfl, hown.mono (by omega), b1.trans (hbel.mono (by omega)), ⟨fun j _ => hprl j, ?_⟩, by omega, ?_⟩
      · by_cases hk0 : k = 0
        · exact .inl hk0
        · right
          have hne : h (p - 1) ≠ 0 := by rcases t1 with h | h; omega; exact h
          unfold pr
          by_cases e : 2 * (k - 1) = p - 1
          · rw [e, cut_in (by omega)]; omega
          · rw [show 2 * (k - 1) + 1 = p - 1 from by omega, cut_in (i := p - 1) (by omega)]; omega
      · rw [unhide HN, ← num_pairs (cut h p) (pr h p) k (fun j _ => rfl), num_cut (by omega)]

set_option maxRecDepth 4000 in
set_option maxHeartbeats 2000000 in
theorem rcmp_any (v u : Value) (n m : Nat) (f h : Nat → Nat) (w : World) (hv : Sl .i64 w v n f) (hu : Sl .i64 w u m h) (hf : ∀ i, i < n → f i < 65536) (hh : ∀ i, i < m → h i < 65536) (hn : n ≤ 1000000000000) (hm : m ≤ 1000000000000) :
    Calls Tryd.prog 87 #[v, u] w fun e w' => e = .returned (.int .i64 (cmpN (num 65536 f n) (num 65536 h m))) ∧ Below w.heap.size w w' := by
  go_enter Tryd.func87, Tryd.ntmps87
  go_wp2_with fail
  refine (rtrim_any _ n f _ hv (by omega)).mono ?_
  rintro e w1 ⟨p, v1, rfl, o1, b1, hp, zp, tp⟩
  go_wp2_with fail
  refine (rtrim_any _ m h _ (hu.below b1 (Nat.le_refl _)) (by omega)).mono ?_
  rintro e w2 ⟨q, v2, rfl, o2, b2, hq, zq, tq⟩
  have hsz1 := b1.size
  have B2 : Below w.heap.size w w2 := b1.trans (b2.mono hsz1)
  have e1 := num_tail (B := 65536) hp zp
  have e2 := num_tail (B := 65536) hq zq
  have cf : Can 65536 f p := ⟨fun i hi => hf i (by omega), tp⟩
  have ch : Can 65536 h q := ⟨fun i hi => hh i (by omega), tq⟩
  have HE1 := hide e1
  have HE2 := hide e2
  obtain ⟨ao, cap, ev, h1, h2, h0, h3⟩ := o1.sl.below b2 (Nat.le_refl _)
  obtain ⟨bo, capb, eu, g1, g2, g0, g3⟩ := o2.sl
  subst ev eu
  clear e1 e2 zp zq tp tq hf hh h0 g0 o1 o2 b1 b2 hv hu
  rcases Nat.lt_trichotomy p q with hpq | hpq | hpq
  · have hb : ((p : Int) != (q : Int)) = true := by rw [bne_iff_ne]; omega
    have HF := hide (can_lt (by decide) cf.1 ch hpq)
    clear cf ch
    go_wp2_with fail
    go_ret
    exact ⟨ret_int (by rw [unhide HE1, unhide HE2, cmpN_lt (unhide HF)]), B2⟩
  · subst hpq
    have hb : ((p : Int) != (p : Int)) = false := by simp
    go_wp2_with fail
    go_loopw [5] (fun t wr => ∃ j : Nat, j ≤ p ∧ t = .int .i64 ((j : Int) - 1) ∧ (∀ i, j ≤ i → i < p → f i = h i) ∧ Below w2.heap.size w2 wr) (fun t _ => (intOf t + 1).toNat)
    case atStart => exact ⟨p, Nat.le_refl _, rfl, fun i _ _ => by omega, Below.refl _ _⟩
    case round =>
      obtain ⟨j, hj, rfl, hsame, hbel⟩ := hrel
      have HSAME := hide hsame
      clear hsame
      by_cases hj0 : j = 0
      · subst hj0
        go_wp2_with fail
        go_ret
        refine ⟨ret_int ?_, B2.trans (hbel.mono B2.size)⟩
        rw [unhide HE1, unhide HE2, cmpN_eq (num_congr (fun i hi => unhide HSAME i (by omega) hi))]
      · rcases h3 with h3 | ⟨b, off, rfl, hc⟩
        · omega
        rcases g3 with g3 | ⟨b', off', rfl, hc'⟩
        · omega
        obtain ⟨i, rfl⟩ : ∃ i, j = i + 1 := ⟨j - 1, by omega⟩
        have hx := (hbel.cell (p := ⟨b, off + i, none⟩) (Rd.lt hc (by omega))).trans (hc i (by omega))
        have hy := (hbel.cell (p := ⟨b', off' + i, none⟩) (Rd.lt hc' (by omega))).trans (hc' i (by omega))
        have hi0 : (0 : Int) ≤ (i : Int) := by omega
        have hip : (i : Int) < (p : Int) := by omega
        have B3 := B2.trans (hbel.mono B2.size)
        clear hc hc'
        rw [show (((i + 1 : Nat) : Int) - 1) = (i : Int) from by omega]
        rcases Nat.lt_trichotomy (f i) (h i) with hlt | hlt | hlt
        · have HF := hide (num_less (B := 65536) cf.1 (show i < p by omega) hlt (fun i h1 h2 => unhide HSAME i (by omega) h2))
          clear cf ch
          generalize f i = x at *
          generalize h i = y at *
          go_wp2_with fail
          go_region
          all_goals go_wp2_with fail
          all_goals go_ret
          all_goals exact ⟨ret_int (by rw [unhide HE1, unhide HE2, cmpN_lt (unhide HF)]), by repeat (first | exact B3 | apply Below.drew)⟩
        · have HXY := hide hlt
          rw [← hlt] at hy
          clear hlt cf ch
          generalize f i = x at hx hy
          go_wp2_with fail
          go_region
          all_goals go_wp2_with fail
          all_goals go_region
          all_goals go_wp2_with fail
          all_goals go_roundw
          case rel => exact ⟨i, by omega, by go_num, fun i' h1 h2 => by
            by_cases e : i' = i
            · rw [e]; exact unhide HXY
            · exact unhide HSAME i' (by omega) h2, by repeat (first | exact hbel | apply Below.drew)⟩
          case measure => simp [intOf]
        · have HF := hide (num_less (B := 65536) ch.1 (show i < p by omega) hlt (fun i h1 h2 => (unhide HSAME i (by omega) h2).symm))
          clear cf ch
          generalize f i = x at *
          generalize h i = y at *
          go_wp2_with fail
          go_region
          all_goals go_wp2_with fail
          all_goals go_region
          all_goals go_wp2_with fail
          all_goals go_ret
          all_goals exact ⟨ret_int (by rw [unhide HE1, unhide HE2, cmpN_gt (unhide HF)]), by repeat (first | exact B3 | apply Below.drew)⟩
  · have hb : ((p : Int) != (q : Int)) = true := by rw [bne_iff_ne]; omega
    have HF := hide (can_lt (by decide) ch.1 cf hpq)
    clear cf ch
    go_wp2_with fail
    go_ret
    exact ⟨ret_int (by rw [unhide HE1, unhide HE2, cmpN_gt (unhide HF)]), B2⟩

theorem wrap_i64 (a : Int) (h1 : -9223372036854775808 ≤ a) (h2 : a ≤ 9223372036854775807) : IntKind.i64.wrap a = a := by
  simp only [IntKind.wrap, IntKind.bits, IntKind.signed]
  simp
  omega

set_option maxRecDepth 4000 in
set_option maxHeartbeats 2000000 in
theorem rsub_any (v u : Value) (n m : Nat) (f g : Nat → Nat) (w : World) (hv : Sl .i64 w v n f) (hu : Sl .i64 w u m g) (hf : ∀ i, i < n → f i < 65536) (hg : ∀ i, i < m → g i < 65536) (hmn : m ≤ n) (hn : n ≤ 1000000000000) (hle : num 65536 g m ≤ num 65536 f n) :
    Calls Tryd.prog 88 #[v, u] w fun e w' => ∃ n' f' v', e = .returned v' ∧ Own .i64 3 w' w.heap.size v' n' f' ∧ Below w.heap.size w w' ∧ Can 65536 f' n' ∧ n' ≤ n ∧ num 65536 f' n' + num 65536 g m = num 65536 f n := by
  obtain ⟨i, hi, hz0, hz1, hz2⟩ := info_parts infoI
  obtain ⟨ao, cap, ev, h1, h2, h0, h3⟩ := id hv
  obtain ⟨bo, capb, eu, -⟩ := id hu
  subst ev eu
  clear h0
  have cg : ∀ i, cut g m i < 65536 := fun i => by by_cases h : i < m; rw [cut_in h]; exact hg i h; rw [cut_out (by omega)]; decide
  go_enter Tryd.func88, Tryd.ntmps88
  go_wp2_with fail
  go_loopw [5, 6, 7] (fun u5 t6 t7 wr => ∃ (k c : Nat) (S : Nat → Nat), k ≤ n ∧ t7 = .int .i64 k ∧ t6 = .int .i64 c ∧ Own .i64 3 wr w.heap.size u5 k S ∧ Below w.heap.size w wr ∧ DifRel 65536 f (cut g m) S k c) (fun _ _ t7 _ => n - (intOf t7).toNat)
  case atStart => exact ⟨0, 0, fun _ => 0, by omega, rfl, rfl, .inl ⟨rfl, rfl⟩, Below.refl _ _, ⟨by omega, fun i hi => by omega, by simp [num]⟩⟩
  case round =>
    obtain ⟨k, c, S, hk, rfl, rfl, hown, hbel, hrl⟩ := hrel
    have hrow := hown.row
    have hsz := hbel.size
    have hc1 : c ≤ 1 := hrl.1
    have hur := hu.below hbel (Nat.le_refl _)
    by_cases hlt : k < n
    · rcases h3 with h3 | ⟨b, off, rfl, hc⟩
      · omega
      have hcx := (hbel.cell (p := ⟨b, off + k, none⟩) (Rd.lt hc (by omega))).trans (hc k hlt)
      have hx := hf k hlt
      have hy := cg k
      have HST := hide (fun (d b : Nat) => hrl.step (x := f k) (y := cut g m k) (d := d) (b := b) rfl rfl)
      have HB := hide (fun (w' : World) (h : Sl .i64 w' (Value.slice bo m capb) m g) => at_any _ m k g w' h (by omega))
      have hk0 : (0 : Int) ≤ (k : Int) := by omega
      have hkn : (k : Int) < (n : Int) := by omega
      clear hrl cg hf hg hc
      generalize f k = x at *
      generalize cut g m k = y at *
      have hurd : Sl .i64 wr.drew (Value.slice bo m capb) m g := hur
      have hw1 : IntKind.i64.wrap ((x : Int) - (y : Int)) = (x : Int) - (y : Int) := wrap_i64 _ (by omega) (by omega)
      have hw2 : IntKind.i64.wrap ((x : Int) - (y : Int) - (c : Int)) = (x : Int) - (y : Int) - (c : Int) := wrap_i64 _ (by omega) (by omega)
      by_cases hneg : x < y + c
      · have hn1 : (x : Int) - (y : Int) - (c : Int) < 0 := by omega
        have HD := hide (unhide HST (x + 65536 - y - c) 1 (by omega) (by omega) (by omega))
        have HV := hide (show (x : Int) - (y : Int) - (c : Int) + 65536 = ((x + 65536 - y - c : Nat) : Int) by omega)
        go_wp2_with fail
        go_region_held3 (fun w' => w'.cell? ⟨b, off + k, none⟩ = some (.int .i64 x)) (go_keep) ((go_at_call 106; refine (unhide HB _ ?_).mono ?_; exact hurd; rintro e w' ⟨rfl, rfl⟩))
        go_wp2_with (at_builtin; refine wpList_append_own _ rfl _ _ 88 rfl w.heap.size 3 i (.int .i64 0) 1 8 Tryd.underlying88 hi hz0 hz1 hz2 rfl (by decide) _ _ _ rfl ((hrow.alloc _).drew) ⟨wr.heap.size, 0, none⟩ 1 1 [.int .i64 ((x : Int) - (y : Int) - (c : Int) + 65536)] rfl rfl (World.news_of_block (cs := #[.int .i64 ((x : Int) - (y : Int) - (c : Int) + 65536)]) (t := 3) (fr := (0, 0)) (heap_alloc_new wr _)) (fun u hu => by simp at hu; subst hu; rfl) (by unfold maxLen; omega) (by omega) (by simp; omega) ?_; intro v4 w4 hown4 hgrow4 hx4)
        rw [unhide HV] at hown4
        have ho5 := own_push hown4
        have hb5 : Below w.heap.size w w4 := ((hbel.alloc (by omega) _).drew).grown hgrow4 (by simp; omega) (fun j hj => (hrow.lt j hj).1)
        clear hown4 hgrow4 hx4 hrow hown hbel hcx
        go_wp2_with fail
        go_roundw
        case rel => exact ⟨k + 1, 1, _, by omega, by go_num, by go_num, ho5, hb5, unhide HD⟩
        case measure => simp [intOf]; omega
      · have hn1 : 0 ≤ (x : Int) - (y : Int) - (c : Int) := by omega
        have HD := hide (unhide HST (x - y - c) 0 (by omega) (by omega) (by omega))
        have HV := hide (show (x : Int) - (y : Int) - (c : Int) = ((x - y - c : Nat) : Int) by omega)
        go_wp2_with fail
        go_region_held3 (fun w' => w'.cell? ⟨b, off + k, none⟩ = some (.int .i64 x)) (go_keep) ((go_at_call 106; refine (unhide HB _ ?_).mono ?_; exact hurd; rintro e w' ⟨rfl, rfl⟩))
        go_wp2_with (at_builtin; refine wpList_append_own _ rfl _ _ 88 rfl w.heap.size 3 i (.int .i64 0) 1 8 Tryd.underlying88 hi hz0 hz1 hz2 rfl (by decide) _ _ _ rfl ((hrow.alloc _).drew) ⟨wr.heap.size, 0, none⟩ 1 1 [.int .i64 ((x : Int) - (y : Int) - (c : Int))] rfl rfl (World.news_of_block (cs := #[.int .i64 ((x : Int) - (y : Int) - (c : Int))]) (t := 3) (fr := (0, 0)) (heap_alloc_new wr _)) (fun u hu => by simp at hu; subst hu; rfl) (by unfold maxLen; omega) (by omega) (by simp; omega) ?_; intro v4 w4 hown4 hgrow4 hx4)
        rw [unhide HV] at hown4
        have ho5 := own_push hown4
        have hb5 : Below w.heap.size w w4 := ((hbel.alloc (by omega) _).drew).grown hgrow4 (by simp; omega) (fun j hj => (hrow.lt j hj).1)
        clear hown4 hgrow4 hx4 hrow hown hbel hcx
        go_wp2_with fail
        go_roundw
        case rel => exact ⟨k + 1, 0, _, by omega, by go_num, by go_num, ho5, hb5, unhide HD⟩
        case measure => simp [intOf]; omega
    · obtain rfl : k = n := by omega
      have e2 : num 65536 (cut g m) k = num 65536 g m := num_cut hmn
      obtain ⟨r1, r2, r3⟩ := hrl
      rw [e2] at r3
      have hlt2 := num_lt r2
      have hc0 : c = 0 := by
        by_cases h : c = 0
        · exact h
        · exfalso
          have : 1 * 65536 ^ k ≤ c * 65536 ^ k := Nat.mul_le_mul_right _ (by omega)
          omega
      subst hc0
      have HR3 := hide r3
      clear e2 r3 cg hf hg hlt2
      go_wp2_with fail
      refine (rtrim_any _ k S _ hown.sl (by omega)).mono ?_
      rintro e w5 ⟨p, v5, rfl, o5, b5, l5, z5, t5⟩
      go_wp2_with fail
      go_ret
      refine ⟨p, _, v5, rfl, o5.mono (by omega), hbel.trans (b5.mono (by omega)), ⟨fun j hj => r2 j (by omega), t5⟩, l5, ?_⟩
      rw [← num_tail l5 z5]
      have := unhide HR3
      omega

set_option maxRecDepth 4000 in
set_option maxHeartbeats 1000000 in
theorem rCmp_any (v u : Value) (n m : Nat) (f g : Nat → Nat) (w : World) (hv : Sl .u32 w v n f) (hu : Sl .u32 w u m g) (hf : ∀ i, i < n → f i < 4294967296) (hg : ∀ i, i < m → g i < 4294967296) (hn : n ≤ 100000000000) (hm : m ≤ 100000000000) :
    Calls Tryd.prog 101 #[v, u] w fun e w' => e = .returned (.int .i64 (cmpN (num 4294967296 f n) (num 4294967296 g m))) ∧ Below w.heap.size w w' := by
  go_enter Tryd.func101, Tryd.ntmps101
  go_wp2_with fail
  refine (half_any _ n f _ hv hf (by omega)).mono ?_
  rintro e w1 ⟨n1, f1, a1, rfl, o1, u1, c1, l1, p1⟩
  replace u1 : Up w w1 := u1
  go_wp2_with fail
  refine (half_any _ m g _ (hu.up u1) hg (by omega)).mono ?_
  rintro e w2 ⟨n2, f2, a2, rfl, o2, u2, c2, l2, p2⟩
  replace u2 : Up w1 w2 := u2
  have P1 := hide p1
  have P2 := hide p2
  clear p1 p2
  go_wp2_with fail
  refine (rcmp_any _ _ n1 n2 f1 f2 _ (o1.sl.up u2) o2.sl c1.1 c2.1 (by omega) (by omega)).mono ?_
  rintro e w3 ⟨rfl, u3⟩
  replace u3 : Up w2 w3 := u3
  go_wp2_with fail
  go_ret
  exact ⟨ret_int (by rw [unhide P1, unhide P2]), u1.tr (u2.tr u3)⟩

set_option maxRecDepth 4000 in
set_option maxHeartbeats 1000000 in
theorem rSub_lt (v u : Value) (n m : Nat) (f g : Nat → Nat) (w : World) (hv : Sl .u32 w v n f) (hu : Sl .u32 w u m g) (hf : ∀ i, i < n → f i < 4294967296) (hg : ∀ i, i < m → g i < 4294967296) (hn : n ≤ 100000000000) (hm : m ≤ 100000000000)
    (hlt : num 4294967296 f n < num 4294967296 g m) :
    Calls Tryd.prog 78 #[v, u] w fun e w' => e = .returned (.tuple #[.slice none 0 0, .bool false]) ∧ Below w.heap.size w w' := by
  go_enter Tryd.func78, Tryd.ntmps78
  go_wp2_with fail
  refine (rCmp_any _ _ n m f g _ hv hu hf hg hn hm).mono ?_
  rintro e w1 ⟨rfl, u1⟩
  rw [cmpN_lt hlt]
  go_wp2_with fail
  go_ret2
  exact ⟨rfl, u1⟩

set_option maxRecDepth 4000 in
set_option maxHeartbeats 1000000 in
theorem rSub_ge (v u : Value) (n m : Nat) (f g : Nat → Nat) (w : World) (hv : Sl .u32 w v n f) (hu : Sl .u32 w u m g) (hf : ∀ i, i < n → f i < 4294967296) (hg : ∀ i, i < m → g i < 4294967296) (hn : n ≤ 100000000000) (hm : m ≤ 100000000000)
    (hle : num 4294967296 g m ≤ num 4294967296 f n) :
    Calls Tryd.prog 78 #[v, u] w fun e w' => ∃ n' f' v', e = .returned (.tuple #[v', .bool true]) ∧ Own .u32 64 w' w.heap.size v' n' f' ∧ Below w.heap.size w w' ∧ Can 4294967296 f' n' ∧ num 4294967296 f' n' + num 4294967296 g m = num 4294967296 f n := by
  have hc0 : ¬ cmpN (num 4294967296 f n) (num 4294967296 g m) < 0 := by unfold cmpN; split <;> (try split) <;> omega
  go_enter Tryd.func78, Tryd.ntmps78
  go_wp2_with fail
  refine (rCmp_any _ _ n m f g _ hv hu hf hg hn hm).mono ?_
  rintro e w0 ⟨rfl, u0⟩
  replace u0 : Up w w0 := u0
  generalize cmpN (num 4294967296 f n) (num 4294967296 g m) = cc at *
  go_wp2_with fail
  refine (half_any _ n f _ (hv.up u0) hf (by omega)).mono ?_
  rintro e w1 ⟨n1, f1, a1, rfl, o1, u1, c1, l1, p1⟩
  replace u1 : Up w0 w1 := u1
  go_wp2_with fail
  refine (half_any _ m g _ (hu.up (u0.tr u1)) hg (by omega)).mono ?_
  rintro e w2 ⟨n2, f2, a2, rfl, o2, u2, c2, l2, p2⟩
  replace u2 : Up w1 w2 := u2
  have hle2 : num 65536 f2 n2 ≤ num 65536 f1 n1 := by rw [p1, p2]; exact hle
  have hlen : n2 ≤ n1 := by
    apply Nat.le_of_not_lt
    intro h
    have := can_lt (B := 65536) (by decide) c1.1 c2 h
    omega
  have P1 := hide p1
  have P2 := hide p2
  clear p1 p2 hle
  go_wp2_with fail
  refine (rsub_any _ _ n1 n2 f1 f2 _ (o1.sl.up u2) o2.sl c1.1 c2.1 hlen (by omega) hle2).mono ?_
  rintro e w3 ⟨n3, f3, a3, rfl, o3, u3, c3, l3, p3⟩
  replace u3 : Up w2 w3 := u3
  have P3 := hide p3
  clear p3 o1 o2
  go_wp2_with fail
  refine (full_any _ n3 f3 _ o3.sl c3.1 (by omega)).mono ?_
  rintro e w4 ⟨n4, f4, a4, rfl, o4, u4, c4, l4, p4⟩
  replace u4 : Up w3 w4 := u4
  have P4 := hide p4
  clear p4 o3
  have z := Below.size (u0.tr (u1.tr (u2.tr u3)))
  go_wp2_with fail
  go_ret2
  exact ⟨n4, f4, a4, rfl, o4.mono z, u0.tr (u1.tr (u2.tr (u3.tr u4))), c4, by rw [unhide P4, ← unhide P1, ← unhide P2]; exact unhide P3⟩

set_option maxRecDepth 4000 in
set_option maxHeartbeats 2000000 in
theorem rAdd_any (k cap M : Nat) (mo : Option Addr) (vs : Nat → Value) (ns : Nat → Nat) (fs : Nat → Nat → Nat) (w : World)
    (hm : Rds w mo k vs) (hs : ∀ i, i < k → Sl .u32 w (vs i) (ns i) (fs i)) (hfs : ∀ j, j < k → ∀ i, i < ns j → fs j i < 4294967296)
    (hns : ∀ j, j < k → ns j ≤ M) (hM : 2 * M + k ≤ 10000000000) :
    Calls Tryd.prog 77 #[.slice mo k cap] w fun e w' => ∃ n' f' v', e = .returned v' ∧ Own .u32 64 w' w.heap.size v' n' f' ∧ Below w.heap.size w w' ∧ Can 4294967296 f' n' ∧ num 4294967296 f' n' = total ns fs k := by
  go_enter Tryd.func77, Tryd.ntmps77
  go_wp2_with fail
  go_loopw [3, 4] (fun u3 t4 wr => ∃ (j n : Nat) (f : Nat → Nat), j ≤ k ∧ t4 = .int .i64 j ∧ Sl .i64 wr u3 n f ∧ Below w.heap.size w wr ∧ (∀ i, i < n → f i < 65536) ∧ n ≤ 2 * M + j ∧ num 65536 f n = total ns fs j) (fun _ t4 _ => k - (intOf t4).toNat)
  case atStart => exact ⟨0, 0, fun _ => 0, Nat.zero_le _, rfl, ⟨none, 0, rfl, Nat.le_refl _, by omega, fun _ => rfl, .inl rfl⟩, Below.refl _ _, fun i hi => by omega, by omega, rfl⟩
  case round =>
    obtain ⟨j, n, f, hj, rfl, hsl, hbel, hd, hn, hnum⟩ := hrel
    have HN := hide hnum
    clear hnum
    have hsz := hbel.size
    by_cases hlt : j < k
    · rcases hm with hm | ⟨b, off, rfl, hc⟩
      · omega
      have hx := (hbel.cell (p := ⟨b, off + j, none⟩) (World.block_lt_of_cell? w _ (hc j hlt))).trans (hc j hlt)
      have sj := (hs j hlt).below hbel (Nat.le_refl _)
      have dj := hfs j hlt
      have lj := hns j hlt
      obtain ⟨aj, cj, ej, -⟩ := id sj
      rw [ej] at sj hx
      clear hc hs hfs hns ej
      go_wp2_with fail
      refine (half_any _ (ns j) (fs j) _ sj dj (by omega)).mono ?_
      rintro e w1 ⟨n1, f1, a1, rfl, o1, u1, c1, l1, p1⟩
      replace u1 : Up wr w1 := u1
      have P1 := hide p1
      clear p1 hx sj
      go_wp2_with fail
      refine (radd_any _ _ n n1 f f1 _ (hsl.up u1) o1.sl hd c1.1 (by omega) (by omega)).mono ?_
      rintro e w2 ⟨n2, f2, a2, rfl, o2, u2, c2, l2, p2⟩
      replace u2 : Up w1 w2 := u2
      have P2 := hide p2
      have s2 := o2.sl
      have B2 : Below w.heap.size w w2 := hbel.trans (Below.mono (u1.tr u2) hsz)
      clear p2 o1 o2
      go_wp2_with fail
      go_roundw
      case rel => exact ⟨j + 1, n2, f2, by omega, by go_num, s2, B2, c2.1, by omega, by rw [unhide P2, unhide HN, unhide P1]; rfl⟩
      case measure => simp [intOf]; omega
    · obtain rfl : j = k := by omega
      go_wp2_with fail
      refine (full_any _ n f _ hsl hd (by omega)).mono ?_
      rintro e w4 ⟨n4, f4, a4, rfl, o4, u4, c4, l4, p4⟩
      have P4 := hide p4
      clear p4
      go_wp2_with fail
      go_ret
      exact ⟨n4, f4, a4, rfl, o4.mono hsz, hbel.trans (Below.mono u4 hsz), c4, by rw [unhide P4]; exact unhide HN⟩

end Go.Proofs.YtjbocfhmfidjjaaDoor
