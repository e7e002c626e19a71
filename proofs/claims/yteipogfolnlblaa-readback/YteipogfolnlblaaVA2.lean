/-
  What is proved here: plain facts on limbs of 32 and of 16 bits; no walk. the document's own trim, half, full, at and add, as plain arithmetic on limbs of 16 bits. the document's own half and full: limbs of 32 bits as limbs of 16, and back. the document's own cmp and sub on limbs of 16 bits. the document's own sub on limbs of 16 bits. the document's own Cmp, Sub and Add on limbs of 32 bits. the document's own Of (chapter 2) answers the number of a sign and a size, canonical. the document's own Canon, Neg and Int (chapter 2), by values. the document's own Int (chapter 2) answers the number that it is handed. the document's own sum of two numbers (chapter 2), by values. plain facts on multiplying digit by digit to the base 65536; no walk. the document's own mul on limbs of 16 bits. the document's own division by ten, its own Bits, and its own Text, which says a number in decimal digits. the document's own digits of a number (chapter 2), by values.
-/
import Derived.Test.YteipogfolnlblaaVA1
import Derived.Deep.RegionHeld3
import Derived.Deep.AppendLies
import Derived.Deep.QuietTactic
import Derived.BigQuiet
import Derived.Deep.RegionWith
import Derived.Handy
import Derived.Maps.AppendAt
import Derived.Shelf.Strconv.AppendInt10
import Derived.Ground.NamesProg
import Derived.Test.YteipogfolnlblaaRows
import Derived.Laws.BitsAllLaws
import Derived.Laws.MathBits
import Derived.Test.YteipogfolnlblaaProg
import Derived.Test.YteipogfolnlblaaBase
import Derived.WalkLawsBesides
namespace Go.Proofs.Yteipogfolnlblaa
open Go Go.RowKit
/-- make([]int, n). -/
theorem wpList_mkI {w : World} {ops : Array Oper} {rest : List Oper} {o : Oper} {a : Act} {Q : Exit → Act → World → Prop}
    (hg : o.guard = none) (l c : Operand) (hop : o.op = Op.makeSlice 44 l c)
    (kl kc : IntKind) (L C : Int) (n : Nat) (hl : a.eval l = .int kl L) (hc : a.eval c = .int kc C) (hL : L = (n : Int)) (hC : C = (n : Int)) (b2 : 8 * n ≤ 281474976710656)
    (hK : ∀ w', RowAt .i64 3 w' w.heap.size n n (fun _ => 0) → Below w.heap.size w w' → wpList Try.prog ops Q rest (a.put o.dst (.slice (some ⟨w.heap.size, 0, none⟩) n n)) w') :
    wpList Try.prog ops Q (o :: rest) a w := by
  obtain ⟨i, hi, hz0, hz1, hz2⟩ := info_parts infoI
  refine wpList_make_full w hg l c 44 hop w.heap.size 3 i (.int .i64 0) 1 Try.underlying44 hi hz0 hz1 kl kc L C n hl hc hL hC (by rw [hz2]; exact b2) (by unfold maxLen; omega) (Nat.le_refl _) ?_
  intro w' hown hgrow
  refine hK w' ?_ (Below.of_grown hgrow)
  have ho : Own .i64 3 w' w.heap.size (.slice (some ⟨w.heap.size, 0, none⟩) n n) n (fun _ => 0) :=
    Own.of_row hown (fun j hj => by
      rw [show (Value.int .i64 0).cells = #[Value.int .i64 0] from rfl, toList_madeCells_one]
      simp [hj])
  rcases ho with ⟨h, _⟩ | ⟨g, cap, h, _, _, hr⟩
  · cases h
  · cases h
    exact hr

/-- The halves of limbs: the low one, then the high one. -/
def hv (f : Nat → Nat) : Nat → Nat := fun i => if i % 2 = 0 then f (i / 2) % 65536 else f (i / 2) / 65536

theorem hv_lo (f : Nat → Nat) (k : Nat) : hv f (2 * k) = f k % 65536 := by
  unfold hv; rw [if_pos (by omega), show 2 * k / 2 = k from by omega]

theorem hv_hi (f : Nat → Nat) (k : Nat) : hv f (2 * k + 1) = f k / 65536 := by
  unfold hv; rw [if_neg (by omega), show (2 * k + 1) / 2 = k from by omega]

theorem hv_lt {f : Nat → Nat} {n : Nat} (hf : ∀ i, i < n → f i < 4294967296) : ∀ i, i < 2 * n → hv f i < 65536 := by
  intro i hi
  have := hf (i / 2) (by omega)
  unfold hv
  split <;> omega

/-- Pairs of halves are limbs. -/
theorem num_pairs (h F : Nat → Nat) (k : Nat) (hF : ∀ j, j < k → F j = h (2 * j) + h (2 * j + 1) * 65536) : num 65536 h (2 * k) = num 4294967296 F k := by
  induction k with
  | zero => rfl
  | succ k ih =>
    rw [show 2 * (k + 1) = 2 * k + 1 + 1 from by omega, num_succ, num_succ, ih (fun j hj => hF j (by omega)), num_succ, hF k (by omega)]
    have e : (4294967296 : Nat) ^ k = 65536 ^ (2 * k) := by rw [Nat.pow_mul]
    rw [e, Nat.pow_succ, Nat.add_mul]
    generalize 65536 ^ (2 * k) = P
    have e2 : h (2 * k + 1) * 65536 * P = h (2 * k + 1) * (P * 65536) := by rw [Nat.mul_assoc, Nat.mul_comm 65536 P]
    omega

theorem num_hv (f : Nat → Nat) (k : Nat) : num 65536 (hv f) (2 * k) = num 4294967296 f k :=
  num_pairs (hv f) f k (fun j _ => by rw [hv_lo, hv_hi]; omega)

/-- Adding to any base, digit by digit, into a new row. -/
def SumRel (B : Nat) (f g S : Nat → Nat) (k c : Nat) : Prop :=
  c ≤ 1 ∧ (∀ i, i < k → S i < B) ∧ num B S k + c * B ^ k = num B f k + num B g k

theorem SumRel.step {B : Nat} {f g S : Nat → Nat} {k c x y : Nat} (r : SumRel B f g S k c) (hB : 1 < B) (hx : f k = x) (hy : g k = y) (hxl : x < B) (hyl : y < B) :
    SumRel B f g (upd S k ((x + y + c) % B)) (k + 1) ((x + y + c) / B) := by
  obtain ⟨h1, h2, h3⟩ := r
  refine ⟨?_, fun i hi => ?_, ?_⟩
  · have : x + y + c < 2 * B := by omega
    have := (Nat.div_lt_iff_lt_mul (show 0 < B by omega)).2 this
    omega
  · by_cases e : i = k
    · rw [e, upd_same]; exact Nat.mod_lt _ (by omega)
    · rw [upd_other e]; exact h2 i (by omega)
  · rw [num_succ, num_succ, num_succ, upd_same, num_congr (g := S) (fun i hi => upd_other (by omega)), hx, hy, Nat.pow_succ]
    generalize B ^ k = P at *
    have e2 : (x + y + c) % B * P + (x + y + c) / B * (P * B) = (x + y + c) * P := by
      rw [Nat.mul_comm P, ← Nat.mul_assoc, ← Nat.add_mul, Nat.mul_comm _ B, Nat.mod_add_div]
    rw [Nat.add_mul (x + y), Nat.add_mul x] at e2
    omega

/-- Taking, digit by digit, into a new row. -/
def DifRel (B : Nat) (f g S : Nat → Nat) (k c : Nat) : Prop :=
  c ≤ 1 ∧ (∀ i, i < k → S i < B) ∧ num B S k + num B g k = num B f k + c * B ^ k

theorem DifRel.step {B : Nat} {f g S : Nat → Nat} {k c x y d b : Nat} (r : DifRel B f g S k c) (hx : f k = x) (hy : g k = y) (hd : d < B) (hb : b ≤ 1) (hs : d + y + c = x + B * b) :
    DifRel B f g (upd S k d) (k + 1) b := by
  obtain ⟨h1, h2, h3⟩ := r
  refine ⟨hb, fun i hi => ?_, ?_⟩
  · by_cases e : i = k
    · rw [e, upd_same]; exact hd
    · rw [upd_other e]; exact h2 i (by omega)
  · rw [num_succ, num_succ, num_succ, upd_same, num_congr (g := S) (fun i hi => upd_other (by omega)), hx, hy, Nat.pow_succ]
    generalize B ^ k = P at *
    have e2 : (d + y + c) * P = (x + B * b) * P := by rw [hs]
    rw [Nat.add_mul, Nat.add_mul, Nat.add_mul] at e2
    have e3 : B * b * P = b * (P * B) := by rw [Nat.mul_comm B b, Nat.mul_assoc, Nat.mul_comm B P]
    omega

theorem own_push {k : IntKind} {E : TypeId} {w : World} {base : Nat} {v : Value} {n x : Nat} {S : Nat → Nat} (h : w.ownsRow base E 1 v (n + 1) (cellsOf k S n ++ [Value.int k (x : Int)])) : Own k E w base v (n + 1) (upd S n x) :=
  Own.of_row h (fun j hj => by
    by_cases e : j = n
    · subst e
      rw [upd_same, List.getElem?_append_right (by rw [cellsOf_length]; exact Nat.le_refl _), cellsOf_length]
      simp
    · rw [upd_other e, List.getElem?_append_left (by rw [cellsOf_length]; omega), cellsOf_get _ _ _ _ (by omega)])

theorem own_push2 {k : IntKind} {E : TypeId} {w : World} {base : Nat} {v : Value} {n x y : Nat} {S : Nat → Nat} (h : w.ownsRow base E 1 v (n + 2) (cellsOf k S n ++ [Value.int k (x : Int), Value.int k (y : Int)])) (hx : S n = x) (hy : S (n + 1) = y) : Own k E w base v (n + 2) S :=
  Own.of_row h (fun j hj => by
    by_cases e : j < n
    · rw [List.getElem?_append_left (by rw [cellsOf_length]; omega), cellsOf_get _ _ _ _ e]
    · rw [List.getElem?_append_right (by rw [cellsOf_length]; omega), cellsOf_length]
      by_cases e2 : j = n
      · subst e2; simp [hx]
      · obtain rfl : j = n + 1 := by omega
        simp [hy])

set_option maxRecDepth 4000 in
set_option maxHeartbeats 1000000 in
theorem rtrim_hid (v : Value) (n : Nat) (f : Nat → Nat) (w : World) (hv : Sl .i64 w v n f) (hn : 8 * n ≤ 140737488355328) :
    Calls Try.prog 97 #[v] w fun e w' => Hid (∃ m v', e = .returned v' ∧ Own .i64 3 w' w.heap.size v' m f ∧ Below w.heap.size w w' ∧ m ≤ n ∧ (∀ i, m ≤ i → i < n → f i = 0) ∧ (m = 0 ∨ f (m - 1) ≠ 0)) := by
  obtain ⟨i, hi, hz0, hz1, hz2⟩ := info_parts infoI
  have hnil := World.ownsRow_nil w w.heap.size 3 1
  obtain ⟨ao, cap, rfl, h1, h2, h0, h3⟩ := hv
  by_cases hn0 : n = 0
  · subst hn0
    cases ao with
    | none =>
      obtain rfl := h0 rfl
      go_enter Try.func97, Try.ntmps97
      go_wp2
      refine wp_loop_rounds 1 ?_
      rw [rounds_succ]
      go_wp2_with (at_builtin; refine wpList_append_own_none rfl _ _ 44 rfl w.heap.size 3 i 1 Try.underlying44 hi _ _ _ rfl hnil rfl ?_)
      go_ret
      exact hide ⟨0, _, rfl, .inl ⟨rfl, rfl⟩, Below.refl _ _, Nat.le_refl _, fun i _ hi => by omega, .inl rfl⟩
    | some ad =>
      go_enter Try.func97, Try.ntmps97
      go_wp2
      refine wp_loop_rounds 1 ?_
      rw [rounds_succ]
      go_wp2_with (at_builtin; refine wpList_append_own _ rfl _ _ 44 rfl w.heap.size 3 i (.int .i64 0) 1 8 Try.underlying44 hi hz0 hz1 hz2 rfl (by decide) _ _ _ rfl hnil ad 0 _ [] rfl rfl (fun j u hj => by simp at hj) (fun u hu => by simp at hu) (by unfold maxLen; omega) (by omega) (Nat.le_refl _) ?_; intro v' w1 hown hgrow hx; simp only [Nat.zero_add, List.nil_append] at hown)
      go_ret
      refine hide ⟨0, v', rfl, Own.of_row hown (fun j hj => by omega), Below.of_grown hgrow, ?_⟩
      simp
  · rcases h3 with h3 | ⟨b, off, rfl, hc⟩
    · exact absurd h3 hn0
    go_enter Try.func97, Try.ntmps97
    go_wp2
    go_loop [3] (fun t => ∃ k : Nat, k ≤ n ∧ t = .int .i64 k ∧ ∀ i, k ≤ i → i < n → f i = 0) (fun t => (intOf t).toNat)
    case atStart => exact ⟨n, Nat.le_refl _, rfl, fun i h1 h2 => by omega⟩
    case round =>
      obtain ⟨k, hk, rfl, hz⟩ := hrel
      have hcs := cellsOf_length .i64 f k
      have hcl := cellsOf_read (n := k) (fun i hi => hc i (by omega))
      by_cases hk0 : 0 < k
      · have hx := hc (k - 1) (by omega)
        clear hc
        by_cases he : f (k - 1) = 0
        · have HE : Hid (f (k - 1) = 0) := he
          rw [he] at hx
          clear he
          go_wp2_with fail
          go_round
          case rel => exact ⟨k - 1, by omega, by go_num, fun i h1 h2 => by
            by_cases e : i = k - 1
            · rw [e]; exact HE.out
            · exact hz i (by omega) h2⟩
          case measure => simp [intOf]; omega
        · have hb : ((f (k - 1) : Int) == 0) = false := by simp; omega
          have HE := hide he
          generalize f (k - 1) = y at hx hb
          clear he
          go_wp2_with (at_builtin; refine wpList_append_own _ rfl _ _ 44 rfl w.heap.size 3 i (.int .i64 0) 1 8 Try.underlying44 hi hz0 hz1 hz2 rfl (by decide) _ _ _ rfl hnil ⟨b, off, none⟩ k _ (cellsOf .i64 f k) rfl (by rw [hcs]; omega) hcl (cellsOf_one _ _ _) (by unfold maxLen; omega) (by omega) (Nat.le_refl _) ?_; intro v' w1 hown hgrow hx'; simp only [Nat.zero_add, List.nil_append] at hown)
          go_ret
          exact hide ⟨k, v', rfl, Own.of_row hown (fun j hj => cellsOf_get _ _ _ _ hj), Below.of_grown hgrow, hk, hz, .inr (unhide HE)⟩
      · have e0 : k = 0 := by omega
        subst e0
        go_wp2_with (at_builtin; refine wpList_append_own _ rfl _ _ 44 rfl w.heap.size 3 i (.int .i64 0) 1 8 Try.underlying44 hi hz0 hz1 hz2 rfl (by decide) _ _ _ rfl hnil ⟨b, off, none⟩ 0 _ [] rfl rfl (fun j u hj => by simp at hj) (fun u hu => by simp at hu) (by unfold maxLen; omega) (by omega) (Nat.le_refl _) ?_; intro v' w1 hown hgrow hx'; simp only [Nat.zero_add, List.nil_append] at hown)
        go_ret
        exact hide ⟨0, v', rfl, Own.of_row hown (fun j hj => by omega), Below.of_grown hgrow, by omega, hz, .inl rfl⟩

theorem rtrim_any (v : Value) (n : Nat) (f : Nat → Nat) (w : World) (hv : Sl .i64 w v n f) (hn : 8 * n ≤ 140737488355328) :
    Calls Try.prog 97 #[v] w fun e w' => ∃ m v', e = .returned v' ∧ Own .i64 3 w' w.heap.size v' m f ∧ Below w.heap.size w w' ∧ m ≤ n ∧ (∀ i, m ≤ i → i < n → f i = 0) ∧ (m = 0 ∨ f (m - 1) ≠ 0) :=
  (rtrim_hid v n f w hv hn).mono fun _ _ h => unhide h

set_option maxRecDepth 4000 in
set_option maxHeartbeats 400000 in
theorem at_any (v : Value) (n i : Nat) (f : Nat → Nat) (w : World) (hv : Sl .i64 w v n f) (hi : i ≤ 9223372036854775807) :
    Calls Try.prog 104 #[v, .int .i64 i] w fun e w' => e = .returned (.int .i64 (cut f n i : Nat)) ∧ w' = w := by
  obtain ⟨ao, cap, rfl, h1, h2, h0, h3⟩ := hv
  by_cases hlt : i < n
  · rcases h3 with h3 | ⟨b, off, rfl, hc⟩
    · omega
    have hx := hc i hlt
    rw [cut_in hlt]
    clear hc
    go_enter Try.func104, Try.ntmps104
    go_wp2
    go_ret
    exact ⟨rfl, rfl⟩
  · rw [cut_out (by omega)]
    go_enter Try.func104, Try.ntmps104
    go_wp2
    go_ret
    exact ⟨rfl, rfl⟩

set_option maxRecDepth 4000 in
set_option maxHeartbeats 2000000 in
theorem radd_any (v u : Value) (n m : Nat) (f g : Nat → Nat) (w : World) (hv : Sl .i64 w v n f) (hu : Sl .i64 w u m g) (hf : ∀ i, i < n → f i < 65536) (hg : ∀ i, i < m → g i < 65536) (hn : n ≤ 1000000000000) (hm : m ≤ 1000000000000) :
    Calls Try.prog 93 #[v, u] w fun e w' => ∃ n' f' v', e = .returned v' ∧ Own .i64 3 w' w.heap.size v' n' f' ∧ Below w.heap.size w w' ∧ Can 65536 f' n' ∧ (n' ≤ n + 1 ∨ n' ≤ m + 1) ∧ num 65536 f' n' = num 65536 f n + num 65536 g m := by
  obtain ⟨i, hi, hz0, hz1, hz2⟩ := info_parts infoI
  obtain ⟨ao, cap, ev, -⟩ := id hv
  obtain ⟨bo, capb, eu, -⟩ := id hu
  subst ev eu
  have cf : ∀ i, cut f n i < 65536 := fun i => by by_cases h : i < n; rw [cut_in h]; exact hf i h; rw [cut_out (by omega)]; decide
  have cg : ∀ i, cut g m i < 65536 := fun i => by by_cases h : i < m; rw [cut_in h]; exact hg i h; rw [cut_out (by omega)]; decide
  go_enter Try.func93, Try.ntmps93
  go_wp2_with fail
  go_loopw [5, 6, 7] (fun u5 t6 t7 wr => ∃ (k c : Nat) (S : Nat → Nat), (k ≤ n ∨ k ≤ m) ∧ t7 = .int .i64 k ∧ t6 = .int .i64 c ∧ Own .i64 3 wr w.heap.size u5 k S ∧ Below w.heap.size w wr ∧ SumRel 65536 (cut f n) (cut g m) S k c) (fun _ _ t7 _ => n + m - (intOf t7).toNat)
  case atStart => exact ⟨0, 0, fun _ => 0, .inl (by omega), rfl, rfl, .inl ⟨rfl, rfl⟩, Below.refl _ _, ⟨by omega, fun i hi => by omega, by simp [num]⟩⟩
  case round =>
    obtain ⟨k, c, S, hk, rfl, rfl, hown, hbel, hrl⟩ := hrel
    have hrow := hown.row
    have hsz := hbel.size
    have hc1 : c ≤ 1 := hrl.1
    have hvr := hv.below hbel (Nat.le_refl _)
    have hur := hu.below hbel (Nat.le_refl _)
    by_cases hlt : k < n ∨ k < m
    · have hx := cf k
      have hy := cg k
      have HS := hide (hrl.step (by decide) rfl rfl hx hy)
      have hguard : (decide (k < n) || decide (k < m)) = true := by simp; exact hlt
      clear hrl cf cg hf hg
      have hend : ∀ (v4 : Value) (w4 : World), w4.ownsRow w.heap.size 3 1 v4 (k + 1) (cellsOf .i64 S k ++ [Value.int .i64 ((cut f n k + cut g m k + c) % 65536 : Nat)]) → Own .i64 3 w4 w.heap.size v4 (k + 1) (upd S k ((cut f n k + cut g m k + c) % 65536)) := fun v4 w4 h => own_push h
      have HEND := hide hend
      have HA := hide (fun (w' : World) (h : Sl .i64 w' (Value.slice ao n cap) n f) => at_any _ n k f w' h (by omega))
      have HB := hide (fun (w' : World) (h : Sl .i64 w' (Value.slice bo m capb) m g) => at_any _ m k g w' h (by omega))
      clear hend
      generalize cut f n k = x at *
      generalize cut g m k = y at *
      have hpush : (((x : Int) + (y : Int) + (c : Int)) % 65536) = (((x + y + c) % 65536 : Nat) : Int) := by omega
      have HP := hide hpush
      clear hpush
      by_cases hkn : k < n
      all_goals
        go_wp2_with fail
        refine (unhide HA _ hvr).mono ?_
        rintro e w' ⟨rfl, rfl⟩
        go_wp2_with fail
        refine (unhide HB _ hur).mono ?_
        rintro e w' ⟨rfl, rfl⟩
        go_wp2_with (at_builtin; refine wpList_append_own _ rfl _ _ 44 rfl w.heap.size 3 i (.int .i64 0) 1 8 Try.underlying44 hi hz0 hz1 hz2 rfl (by decide) _ _ _ rfl (hrow.alloc _) ⟨w'.heap.size, 0, none⟩ 1 1 [.int .i64 (((x : Int) + (y : Int) + (c : Int)) % 65536)] rfl rfl (cells_one _ _ _) (fun u hu => by simp at hu; subst hu; rfl) (by unfold maxLen; omega) (by omega) (by simp; omega) ?_; intro v4 w4 hown4 hgrow4 hx4; rw [unhide HP] at hown4; have ho5 := unhide HEND v4 w4 hown4; have hb5 := (hbel.alloc (by omega) _).grown hgrow4 (by simp; omega) (fun j hj => (hrow.lt j hj).1); clear hown4 hgrow4 hx4 hrow hown)
        go_roundw
        case rel => exact ⟨k + 1, _, _, by omega, by go_num, by go_num, ho5, hb5, unhide HS⟩
        case measure => simp [intOf]; omega
    · have e1 : num 65536 (cut f n) k = num 65536 f n := num_cut (by omega)
      have e2 : num 65536 (cut g m) k = num 65536 g m := num_cut (by omega)
      obtain ⟨r1, r2, r3⟩ := hrl
      rw [e1, e2] at r3
      have HR3 := hide r3
      clear e1 e2 r3 cf cg hf hg
      go_wp2_with (at_builtin; refine wpList_append_own _ rfl _ _ 44 rfl w.heap.size 3 i (.int .i64 0) 1 8 Try.underlying44 hi hz0 hz1 hz2 rfl (by decide) _ _ _ rfl (hrow.alloc _) ⟨wr.heap.size, 0, none⟩ 1 1 [.int .i64 c] rfl rfl (cells_one _ _ _) (fun u hu => by simp at hu; subst hu; rfl) (by unfold maxLen; omega) (by omega) (by simp; omega) ?_; intro v4 w4 hown4 hgrow4 hx4; have ho5 := own_push hown4; have hb5 := (hbel.alloc (by omega) _).grown hgrow4 (by simp; omega) (fun j hj => (hrow.lt j hj).1); clear hown4 hgrow4 hx4 hrow hown)
      refine (rtrim_any _ (k + 1) _ _ ho5.sl (by omega)).mono ?_
      rintro e w5 ⟨p, v5, rfl, o5, b5, l5, z5, t5⟩
      have hz6 := hb5.size
      go_wp2_with fail
      go_ret
      refine ⟨p, _, v5, rfl, o5.mono (by omega), hb5.trans (b5.mono (by omega)), ⟨fun j hj => ?_, t5⟩, by omega, ?_⟩
      · by_cases e : j = k
        · rw [e, upd_same]; omega
        · rw [upd_other e]; exact r2 j (by omega)
      · rw [← num_tail l5 z5, num_succ, upd_same, num_congr (g := S) (fun j hj => upd_other (by omega))]
        exact unhide HR3

theorem half_lo (x : Nat) (h : x < 4294967296) : IntKind.i64.wrap ((x : Int).tmod 65536) = ((x % 65536 : Nat) : Int) := by
  rw [Int.tmod_eq_emod_of_nonneg (by omega)]
  simp only [IntKind.wrap, IntKind.bits, IntKind.signed]
  simp
  omega

theorem half_hi (x : Nat) (h : x < 4294967296) : IntKind.i64.wrap (IntKind.u32.wrap ((x : Int) / 65536)) = ((x / 65536 : Nat) : Int) := by
  simp only [IntKind.wrap, IntKind.bits, IntKind.signed]
  simp
  omega

set_option maxRecDepth 4000 in
set_option maxHeartbeats 2000000 in
theorem half_any (v : Value) (n : Nat) (f : Nat → Nat) (w : World) (hv : Sl .u32 w v n f) (hf : ∀ i, i < n → f i < 4294967296) (hn : n ≤ 1000000000000) :
    Calls Try.prog 82 #[v] w fun e w' => ∃ m h v', e = .returned v' ∧ Own .i64 3 w' w.heap.size v' m h ∧ Below w.heap.size w w' ∧ Can 65536 h m ∧ m ≤ 2 * n ∧ num 65536 h m = num 4294967296 f n := by
  obtain ⟨i, hi, hz0, hz1, hz2⟩ := info_parts infoI
  obtain ⟨ao, cap, rfl, h1, h2, h0, h3⟩ := hv
  clear h0
  go_enter Try.func82, Try.ntmps82
  go_wp2_with fail
  go_loopw [3, 4] (fun u3 t4 wr => ∃ k : Nat, k ≤ n ∧ t4 = .int .i64 k ∧ Own .i64 3 wr w.heap.size u3 (2 * k) (hv f) ∧ Below w.heap.size w wr) (fun _ t4 _ => n - (intOf t4).toNat)
  case atStart => exact ⟨0, Nat.zero_le _, rfl, .inl ⟨rfl, rfl⟩, Below.refl _ _⟩
  case round =>
    obtain ⟨k, hk, rfl, hown, hbel⟩ := hrel
    have hrow := hown.row
    have hsz := hbel.size
    by_cases hlt : k < n
    · rcases h3 with h3 | ⟨b, off, rfl, hc⟩
      · omega
      have hx := (hbel.cell (p := ⟨b, off + k, none⟩) (Rd.lt hc (by omega))).trans (hc k hlt)
      have hbw : b < w.heap.size := Rd.lt hc (by omega)
      have hxl := hf k hlt
      have HL := hide (hv_lo f k)
      have HH := hide (hv_hi f k)
      have hk0 : (0 : Int) ≤ (k : Int) := by omega
      have hkn : (k : Int) < (n : Int) := by omega
      clear hc hf
      generalize f k = x at *
      go_wp2_with fail
      go_region_held3 (fun w' => w'.cell? ⟨b, off + k, none⟩ = some (.int .u32 x)) (first | go_keep | exact hgrow4.cell (((((Below.refl wr.heap.size wr).alloc (Nat.le_refl _) _).drew).cell (p := ⟨b, off + k, none⟩) (show b < wr.heap.size by omega)).trans hx) (fun e => by have := (hrow.lt b e.symm).1; omega))
        ((refine step_append_lies _ (by rfl) _ _ 44 (by rfl) w.heap.size 3 i (.int .i64 0) 1 8 Try.underlying44 hi hz0 hz1 hz2 rfl (by decide) _ _ _ (by rfl) ((hrow.alloc _).drew) ⟨wr.heap.size, 0, none⟩ 2 2 [.int .i64 (IntKind.i64.wrap ((x : Int).tmod 65536)), .int .i64 (IntKind.i64.wrap (IntKind.u32.wrap ((x : Int) / 65536)))] (by rfl) rfl (World.news_of_block (cs := #[.int .i64 (IntKind.i64.wrap ((x : Int).tmod 65536)), .int .i64 (IntKind.i64.wrap (IntKind.u32.wrap ((x : Int) / 65536)))]) (t := 3) (fr := (0, 0)) (heap_alloc_new wr _)) (by simp [Value.oneCell']) (by decide) (by unfold maxLen; omega) (by omega) (by simp; omega) (wr.heap.size + 1) (by simp) ?_; intro g4 cap4 w4 hown4 hgrow4 hat4 hlt4))
      rw [half_lo x hxl, half_hi x hxl] at hown4
      have ho5 := own_push2 hown4 (unhide HL) (unhide HH)
      have hb5 : Below w.heap.size w w4 := ((hbel.alloc (by omega) _).drew).grown hgrow4 (by simp; omega) (fun j hj => (hrow.lt j hj).1)
      clear hown4 hgrow4 hat4 hrow hown hbel hx
      go_wp2_with fail
      go_roundw
      case rel => exact ⟨k + 1, by omega, by go_num, ho5, hb5⟩
      case measure => simp [intOf]; omega
    · obtain rfl : k = n := by omega
      go_wp2_with fail
      refine (rtrim_any _ (2 * k) _ _ hown.sl (by omega)).mono ?_
      rintro e w5 ⟨p, v5, rfl, o5, b5, l5, z5, t5⟩
      go_wp2_with fail
      go_ret
      exact ⟨p, _, v5, rfl, o5.mono (by omega), hbel.trans (b5.mono (by omega)), ⟨fun j hj => hv_lt hf j (by omega), t5⟩, l5, by rw [← num_tail l5 z5, num_hv]⟩

/-- Pairs of what was cut off behind p places. -/
def pr (h : Nat → Nat) (p : Nat) : Nat → Nat := fun k => cut h p (2 * k) + cut h p (2 * k + 1) * 65536

theorem pr_lt {h : Nat → Nat} {p : Nat} (hd : ∀ i, i < p → h i < 65536) : ∀ k, pr h p k < 4294967296 := by
  intro k
  have c : ∀ i, cut h p i < 65536 := fun i => by by_cases e : i < p; rw [cut_in e]; exact hd i e; rw [cut_out (by omega)]; decide
  have h1 := c (2 * k)
  have h2 := c (2 * k + 1)
  unfold pr
  omega

set_option maxRecDepth 4000 in
set_option maxHeartbeats 2000000 in
theorem full_any (v : Value) (n : Nat) (h : Nat → Nat) (w : World) (hv : Sl .i64 w v n h) (hd : ∀ i, i < n → h i < 65536) (hn : n ≤ 1000000000000) :
    Calls Try.prog 95 #[v] w fun e w' => ∃ m f v', e = .returned v' ∧ Own .u32 91 w' w.heap.size v' m f ∧ Below w.heap.size w w' ∧ Can 4294967296 f m ∧ m ≤ n ∧ num 4294967296 f m = num 65536 h n := by
  obtain ⟨i, hi, hz0, hz1, hz2⟩ := info_parts infoU
  go_enter Try.func95, Try.ntmps95
  go_wp2_with fail
  refine (rtrim_any _ n h _ hv (by omega)).mono ?_
  rintro e w1 ⟨p, v1, rfl, o1, b1, l1, z1, t1⟩
  have HN := hide (num_tail (B := 65536) l1 z1)
  have hpd : ∀ i, i < p → h i < 65536 := fun i hi => hd i (by omega)
  have hprl := pr_lt hpd
  obtain ⟨ao, cap, e1, q1, q2, q0, q3⟩ := o1.sl
  subst e1
  have hz1' := b1.size
  clear hd z1 hv q0
  go_wp2_with fail
  go_loopw [3, 4] (fun u3 t4 wr => ∃ k : Nat, 2 * k ≤ p + 1 ∧ t4 = .int .i64 (2 * k : Nat) ∧ Own .u32 91 wr w1.heap.size u3 k (pr h p) ∧ Below w1.heap.size w1 wr) (fun _ t4 _ => p + 1 - (intOf t4).toNat)
  case atStart => exact ⟨0, by omega, rfl, .inl ⟨rfl, rfl⟩, Below.refl _ _⟩
  case round =>
    obtain ⟨k, hk, rfl, hown, hbel⟩ := hrel
    have hrow := hown.row
    have hsz := hbel.size
    by_cases hlt : 2 * k < p
    · rcases q3 with q3 | ⟨b, off, rfl, hc⟩
      · omega
      have hx := (hbel.cell (p := ⟨b, off + 2 * k, none⟩) (Rd.lt hc (by omega))).trans (hc (2 * k) hlt)
      have hxl := hpd (2 * k) hlt
      by_cases hlt2 : 2 * k + 1 < p
      · have hy := (hbel.cell (p := ⟨b, off + (2 * k + 1), none⟩) (Rd.lt hc (by omega))).trans (hc (2 * k + 1) hlt2)
        have hyl := hpd (2 * k + 1) hlt2
        have HP := hide (show pr h p k = h (2 * k) + h (2 * k + 1) * 65536 by unfold pr; rw [cut_in hlt, cut_in hlt2])
        have HPUSH := hide (fun (v4 : Value) (w4 : World) (x : Nat) (hx : x = pr h p k) (H : w4.ownsRow w1.heap.size 91 1 v4 (k + 1) (cellsOf .u32 (pr h p) k ++ [Value.int .u32 (x : Int)])) => (own_push H).congr (f' := pr h p) (fun j hj => by by_cases e : j = k; rw [e, upd_same, hx]; rw [upd_other e]))
        clear hc hpd hprl
        generalize h (2 * k) = x at *
        generalize h (2 * k + 1) = y at *
        go_wp2_with (at_builtin; refine wpList_append_own _ rfl _ _ 31 rfl w1.heap.size 91 i (.int .u32 0) 1 4 Try.underlying31 hi hz0 hz1 hz2 rfl (by decide) _ _ _ rfl (hrow.alloc _) ⟨wr.heap.size, 0, none⟩ 1 1 [.int .u32 ((x : Int) + (y : Int) * 65536)] rfl rfl (cells_one _ _ _) (fun u hu => by simp at hu; subst hu; rfl) (by unfold maxLen; omega) (by omega) (by simp; omega) ?_; intro v4 w4 hown4 hgrow4 hx4)
        rw [show ((x : Int) + (y : Int) * 65536) = ((x + y * 65536 : Nat) : Int) from by simp] at hown4
        have ho5 := unhide HPUSH _ _ _ (unhide HP).symm hown4
        have hb5 := (hbel.alloc (by omega) _).grown hgrow4 (by simp; omega) (fun j hj => (hrow.lt j hj).1)
        clear hown4 hgrow4 hx4 hrow hown hbel hx hy
        go_wp2_with fail
        go_roundw
        case rel => exact ⟨k + 1, by omega, by go_num, ho5, hb5⟩
        case measure => simp [intOf]; omega
      · have HP := hide (show pr h p k = h (2 * k) by unfold pr; rw [cut_in hlt, cut_out (by omega)]; omega)
        have HPUSH := hide (fun (v4 : Value) (w4 : World) (x : Nat) (hx : x = pr h p k) (H : w4.ownsRow w1.heap.size 91 1 v4 (k + 1) (cellsOf .u32 (pr h p) k ++ [Value.int .u32 (x : Int)])) => (own_push H).congr (f' := pr h p) (fun j hj => by by_cases e : j = k; rw [e, upd_same, hx]; rw [upd_other e]))
        clear hc hpd hprl
        generalize h (2 * k) = x at *
        go_wp2_with (at_builtin; refine wpList_append_own _ rfl _ _ 31 rfl w1.heap.size 91 i (.int .u32 0) 1 4 Try.underlying31 hi hz0 hz1 hz2 rfl (by decide) _ _ _ rfl (hrow.alloc _) ⟨wr.heap.size, 0, none⟩ 1 1 [.int .u32 (x : Int)] rfl rfl (cells_one _ _ _) (fun u hu => by simp at hu; subst hu; rfl) (by unfold maxLen; omega) (by omega) (by simp; omega) ?_; intro v4 w4 hown4 hgrow4 hx4)
        have ho5 := unhide HPUSH _ _ _ (unhide HP).symm hown4
        have hb5 := (hbel.alloc (by omega) _).grown hgrow4 (by simp; omega) (fun j hj => (hrow.lt j hj).1)
        clear hown4 hgrow4 hx4 hrow hown hbel hx
        go_wp2_with fail
        go_roundw
        case rel => exact ⟨k + 1, by omega, by go_num, ho5, hb5⟩
        case measure => simp [intOf]; omega
    · go_wp2_with fail
      go_ret
      refine ⟨k, _, _, rfl, hown.mono (by omega), b1.trans (hbel.mono (by omega)), ⟨fun j _ => hprl j, ?_⟩, by omega, ?_⟩
      · by_cases hk0 : k = 0
        · exact .inl hk0
        · right
          have hne : h (p - 1) ≠ 0 := by rcases t1 with h | h; omega; exact h
          unfold pr
          by_cases e : 2 * (k - 1) = p - 1
          · rw [e, cut_in (by omega)]; omega
          · rw [show 2 * (k - 1) + 1 = p - 1 from by omega, cut_in (i := p - 1) (by omega)]; omega
      · rw [unhide HN, ← num_pairs (cut h p) (pr h p) k (fun j _ => rfl), num_cut (by omega)]

theorem wrap_i64 (a : Int) (h1 : -9223372036854775808 ≤ a) (h2 : a ≤ 9223372036854775807) : IntKind.i64.wrap a = a := by
  simp only [IntKind.wrap, IntKind.bits, IntKind.signed]
  simp
  omega

set_option maxRecDepth 4000 in
set_option maxHeartbeats 2000000 in
theorem rAdd_any (k cap M : Nat) (mo : Option Addr) (vs : Nat → Value) (ns : Nat → Nat) (fs : Nat → Nat → Nat) (w : World)
    (hm : Rds w mo k vs) (hs : ∀ i, i < k → Sl .u32 w (vs i) (ns i) (fs i)) (hfs : ∀ j, j < k → ∀ i, i < ns j → fs j i < 4294967296)
    (hns : ∀ j, j < k → ns j ≤ M) (hM : 2 * M + k ≤ 10000000000) :
    Calls Try.prog 96 #[.slice mo k cap] w fun e w' => ∃ n' f' v', e = .returned v' ∧ Own .u32 91 w' w.heap.size v' n' f' ∧ Below w.heap.size w w' ∧ Can 4294967296 f' n' ∧ num 4294967296 f' n' = total ns fs k := by
  go_enter Try.func96, Try.ntmps96
  go_wp2_with fail
  go_loopw [3, 4] (fun u3 t4 wr => ∃ (j n : Nat) (f : Nat → Nat), j ≤ k ∧ t4 = .int .i64 j ∧ Sl .i64 wr u3 n f ∧ Below w.heap.size w wr ∧ (∀ i, i < n → f i < 65536) ∧ n ≤ 2 * M + j ∧ num 65536 f n = total ns fs j) (fun _ t4 _ => k - (intOf t4).toNat)
  case atStart => exact ⟨0, 0, fun _ => 0, Nat.zero_le _, rfl, ⟨none, 0, rfl, Nat.le_refl _, by omega, fun _ => rfl, .inl rfl⟩, Below.refl _ _, fun i hi => by omega, by omega, rfl⟩
  case round =>
    obtain ⟨j, n, f, hj, rfl, hsl, hbel, hd, hn, hnum⟩ := hrel
    have HN := hide hnum
    clear hnum
    have hsz := hbel.size
    by_cases hlt : j < k
    · rcases hm with hm | ⟨b, off, rfl, hc⟩
      · omega
      have hx := (hbel.cell (p := ⟨b, off + j, none⟩) (World.block_lt_of_cell? w _ (hc j hlt))).trans (hc j hlt)
      have sj := (hs j hlt).below hbel (Nat.le_refl _)
      have dj := hfs j hlt
      have lj := hns j hlt
      obtain ⟨aj, cj, ej, -⟩ := id sj
      rw [ej] at sj hx
      clear hc hs hfs hns ej
      go_wp2_with fail
      refine (half_any _ (ns j) (fs j) _ sj dj (by omega)).mono ?_
      rintro e w1 ⟨n1, f1, a1, rfl, o1, u1, c1, l1, p1⟩
      replace u1 : Up wr w1 := u1
      have P1 := hide p1
      clear p1 hx sj
      go_wp2_with fail
      refine (radd_any _ _ n n1 f f1 _ (hsl.up u1) o1.sl hd c1.1 (by omega) (by omega)).mono ?_
      rintro e w2 ⟨n2, f2, a2, rfl, o2, u2, c2, l2, p2⟩
      replace u2 : Up w1 w2 := u2
      have P2 := hide p2
      have s2 := o2.sl
      have B2 : Below w.heap.size w w2 := hbel.trans (Below.mono (u1.tr u2) hsz)
      clear p2 o1 o2
      go_wp2_with fail
      go_roundw
      case rel => exact ⟨j + 1, n2, f2, by omega, by go_num, s2, B2, c2.1, by omega, by rw [unhide P2, unhide HN, unhide P1]; rfl⟩
      case measure => simp [intOf]; omega
    · obtain rfl : j = k := by omega
      go_wp2_with fail
      refine (full_any _ n f _ hsl hd (by omega)).mono ?_
      rintro e w4 ⟨n4, f4, a4, rfl, o4, u4, c4, l4, p4⟩
      have P4 := hide p4
      clear p4
      go_wp2_with fail
      go_ret
      exact ⟨n4, f4, a4, rfl, o4.mono hsz, hbel.trans (Below.mono u4 hsz), c4, by rw [unhide P4]; exact unhide HN⟩

theorem rds_oneE (w : World) (x : Value) (E : TypeId) (g : Nat) (hg : g = w.heap.size) : Rds (w.alloc (.cells #[x] E)) (some ⟨g, 0, none⟩) 1 (fun _ => x) := by
  subst hg
  refine .inr ⟨w.heap.size, 0, rfl, fun i hi => ?_⟩
  obtain rfl : i = 0 := (by omega)
  rw [cell_of_row _ _ _ _ _ _ (heap_alloc_new w _)]
  rfl

/-- A canonical row is not longer than another that says the same. -/
theorem can_le {B : Nat} (hB : 0 < B) {f g : Nat → Nat} {n m : Nat} (hf : Can B f n) (hg : ∀ i, i < m → g i < B) (h : num B f n = num B g m) : n ≤ m := by
  apply Nat.le_of_not_lt
  intro hlt
  obtain ⟨k, rfl⟩ : ∃ k, n = k + 1 := ⟨n - 1, by omega⟩
  have h1 := num_lt hg
  have h2 : B ^ m ≤ B ^ k := Nat.pow_le_pow_right hB (by omega)
  have h3 : f k ≠ 0 := by
    rcases hf.2 with h0 | h0
    · omega
    · simpa using h0
  have h4 : num B f (k + 1) = num B f k + f k * B ^ k := rfl
  have h5 : 1 * B ^ k ≤ f k * B ^ k := Nat.mul_le_mul_right _ (by omega)
  omega

set_option maxRecDepth 4000 in
set_option maxHeartbeats 1000000 in
theorem r2of_any (b : Bool) (v : Value) (n : Nat) (f : Nat → Nat) (w : World) (hs : Sl .u32 w v n f) (hd : ∀ i, i < n → f i < 4294967296) (hn : 2 * n + 1 ≤ 10000000000) :
    Calls Try.prog 81 #[.bool b, v] w fun e w' => ∃ a b' m f', e = .returned a ∧ OwnN w' w.heap.size a b' m f' ∧ Up w w' ∧ CanZ b' f' m ∧ m ≤ n ∧ sgn b' (num 4294967296 f' m) = sgn b (num 4294967296 f n) := by
  obtain ⟨ao, cap, rfl, -⟩ := id hs
  have fin : ∀ (m : Nat) (f' : Nat → Nat), Can 4294967296 f' m → num 4294967296 f' m = total (fun _ => n) (fun _ => f) 1 → m ≤ n ∧ num 4294967296 f' m = num 4294967296 f n := by
    intro m f' c s
    have s' : num 4294967296 f' m = num 4294967296 f n := by
      rw [s]
      simp [total]
    exact ⟨can_le (by decide) c hd s', s'⟩
  have FIN := hide fin
  clear fin
  go_enter Try.func81, Try.ntmps81
  go_wp2_with fail
  refine (rAdd_any 1 1 n _ (fun _ => .slice ao n cap) (fun _ => n) (fun _ => f) _ (rds_oneE _ _ _ _ (by simp)) (fun i _ => (hs.up (up_alloc _ _)).up (up_alloc _ _)) (fun j _ => hd) (fun j _ => Nat.le_refl _) (by omega)).mono ?_
  rintro e w2 ⟨m, f', v', rfl, o, u, c, s⟩
  obtain ⟨l, s'⟩ := unhide FIN m f' c s
  have HS := hide s'
  clear s s' FIN
  obtain ⟨ao2, cap2, rfl, -⟩ := id o.sl
  obtain ⟨d0, d1, g0, g1, lt, e0, e1⟩ := res2 w.heap.size rfl ((up_alloc _ _).tr u)
  have hz : CanZ (b && !decide (m = 0)) f' m := CanZ.of c
  by_cases hm : m = 0
  · subst hm
    cases b <;>
    · go_wp2_with fail
      refine bodyPost_ret (by simp [results, Try.results81, go_sem, e0, e1]; rfl) rfl ?_
      refine ⟨_, _, 0, _, rfl, ⟨_, rfl, (o.set2 (by simp; omega)).mono (by simp; omega)⟩, Up.set2 ((up_alloc w _).tr ((up_alloc _ _).tr u)) (Nat.le_refl _), by simpa using hz, l, ?_⟩
      rw [← unhide HS]
      try simp [sgn, num]
  · have hm1 : 0 < m := by omega
    cases b <;>
    · go_wp2_with fail
      refine bodyPost_ret (by simp [results, Try.results81, go_sem, e0, e1]; rfl) rfl ?_
      refine ⟨_, _, m, _, rfl, ⟨_, rfl, (o.set2 (by simp; omega)).mono (by simp; omega)⟩, Up.set2 ((up_alloc w _).tr ((up_alloc _ _).tr u)) (Nat.le_refl _), by simpa [hm] using hz, l, ?_⟩
      rw [← unhide HS]

set_option maxRecDepth 4000 in
set_option maxHeartbeats 1000000 in
theorem r2canon_any (a : Value) (b : Bool) (n : Nat) (f : Nat → Nat) (w : World) (hs : Nm w a b n f) (hd : ∀ i, i < n → f i < 4294967296) (hn : 2 * n + 1 ≤ 10000000000) :
    Calls Try.prog 65 #[a] w fun e w' => ∃ a b' m f', e = .returned a ∧ OwnN w' w.heap.size a b' m f' ∧ Up w w' ∧ CanZ b' f' m ∧ m ≤ n ∧ sgn b' (num 4294967296 f' m) = sgn b (num 4294967296 f n) := by
  obtain ⟨v, rfl, hs⟩ := hs
  obtain ⟨ao, cap, rfl, -⟩ := id hs
  go_enter Try.func65, Try.ntmps65
  go_wp2_with fail
  refine (r2of_any b _ n f _ ((hs.up (up_alloc _ _)).up (up_alloc _ _)) hd hn).mono ?_
  rintro e w2 ⟨a2, b2, m, f', rfl, ⟨v2, rfl, o⟩, u, c, l, s⟩
  have HS := hide s
  clear s
  obtain ⟨ao2, cap2, rfl, -⟩ := id o.sl
  obtain ⟨d0, d1, g0, g1, lt, e0, e1⟩ := res2 (w.heap.size + 1) (by simp) u
  go_wp2_with fail
  refine bodyPost_ret (by simp [results, Try.results65, go_sem, e0, e1]; rfl) rfl ?_
  exact ⟨_, b2, m, _, rfl, ⟨_, rfl, (o.set2 (by simp)).mono (by simp; omega)⟩, Up.set2 ((up_alloc w _).tr ((up_alloc _ _).tr u)) (by omega), c, l, unhide HS⟩

theorem r2canon_rd {X : Int} {M : Nat} {w : World} {a : Value} (h : RdD X M w a) (hM : 2 * M + 1 ≤ 10000000000) :
    Calls Try.prog 65 #[a] w fun e w' => ∃ v, e = .returned v ∧ NumIn X M w' w.heap.size w'.heap.size v ∧ Up w w' := by
  obtain ⟨b, n, f, hn, d, l, s⟩ := h
  refine (r2canon_any a b n f w hn d (by omega)).mono ?_
  rintro e w' ⟨a', b', n', f', rfl, o, u, c, l', s'⟩
  exact ⟨a', rfl, ⟨b', n', f', CopIn.of o, c, by omega, by rw [s', s]⟩, u⟩

/-- A size in blocks from lo on, below hi: canonical, its value is x, it has at most M limbs. -/
def MagIn (x M : Nat) (w : World) (lo hi : Nat) (v : Value) : Prop := ∃ n f, OwnIn w lo hi v n f ∧ Can 4294967296 f n ∧ n ≤ M ∧ num 4294967296 f n = x

theorem MagIn.keep {x M : Nat} {w w' : World} {lo hi : Nat} {v : Value} (h : MagIn x M w lo hi v) (hb : ∀ b, lo ≤ b → b < hi → w'.heap[b]? = w.heap[b]?) : MagIn x M w' lo hi v := by
  obtain ⟨n, f, o, r⟩ := h
  exact ⟨n, f, o.keep hb, r⟩

/-- Behind k digits: the row from 'off' on holds f's digits and x times h's, but for the carry c. -/
def TimesB (f h : Nat → Nat) (x off n k : Nat) (f' : Nat → Nat) (c : Nat) : Prop :=
  c < 65536 ∧ (∀ i, ¬ (off ≤ i ∧ i < off + k) → f' i = f i) ∧ (∀ i, i < n → f' (off + i) < 65536) ∧
  num 65536 (fun i => f' (off + i)) k + c * 65536 ^ k = num 65536 (fun i => f (off + i)) k + x * num 65536 h k

theorem timesB_small {x y z c : Nat} (hx : x < 65536) (hy : y < 65536) (hz : z < 65536) (hc : c < 65536) : z + x * y + c < 4294967296 := by
  have : x * y ≤ 65535 * 65535 := Nat.mul_le_mul (by omega) (by omega)
  omega

theorem TimesB.step {f h f' : Nat → Nat} {x off n k c y z : Nat} (r : TimesB f h x off n k f' c) (_hk : k < n) (hx : x < 65536) (hz : f' (off + k) = z) (hy : h k = y) (hyl : y < 65536) :
    TimesB f h x off n (k + 1) (upd f' (off + k) ((z + x * y + c) % 65536)) ((z + x * y + c) / 65536) := by
  obtain ⟨h1, h2, h3, h4⟩ := r
  have hzl : z < 65536 := by rw [← hz]; exact h3 k (by omega)
  have hs := timesB_small hx hyl hzl h1
  refine ⟨by omega, fun i hi => ?_, fun i hi => ?_, ?_⟩
  · rw [upd_other (by omega)]
    exact h2 i (by omega)
  · by_cases e : i = k
    · rw [e, upd_same]; exact Nat.mod_lt _ (by decide)
    · rw [upd_other (by omega)]; exact h3 i hi
  · rw [num_succ, num_succ, num_succ, upd_same]
    rw [num_congr (g := fun i => f' (off + i)) (fun i hi => upd_other (by omega))]
    have e1 : f (off + k) = z := by rw [← hz]; exact (h2 _ (by omega)).symm
    rw [e1, hy, Nat.pow_succ]
    generalize 65536 ^ k = P at *
    generalize hS : z + x * y + c = S at *
    have e2 : S % 65536 * P + S / 65536 * (P * 65536) = S * P := by
      rw [Nat.mul_comm P, ← Nat.mul_assoc, ← Nat.add_mul, Nat.mul_comm _ 65536, Nat.mod_add_div]
    have e4 : S * P = z * P + x * y * P + c * P := by rw [← hS, Nat.add_mul, Nat.add_mul]
    have e3 : x * (num 65536 h k + y * P) = x * num 65536 h k + x * y * P := by
      rw [Nat.mul_add, ← Nat.mul_assoc]
    rw [e3]
    omega

/-- From place j on: the digits of q times d, and the rest r, make the digits of f. -/
def SmRel (B : Nat) (f : Nat → Nat) (d n j : Nat) (q : Nat → Nat) (r : Nat) : Prop :=
  r < d ∧ (∀ i, i < n → q i < B) ∧ num B (fun i => q (j + i)) (n - j) * d + r = num B (fun i => f (j + i)) (n - j)

theorem SmRel.step {B : Nat} {f q : Nat → Nat} {d n j r x : Nat} (h : SmRel B f d n (j + 1) q r) (hj : j < n) (hx : f j = x) (hxl : x < B) :
    SmRel B f d n j (upd q j ((r * B + x) / d)) ((r * B + x) % d) := by
  obtain ⟨h1, h3, h4⟩ := h
  have hd : 0 < d := by omega
  have hq : (r * B + x) / d < B := by
    rw [Nat.div_lt_iff_lt_mul hd]
    have : (r + 1) * B ≤ d * B := Nat.mul_le_mul_right _ h1
    rw [Nat.add_mul, Nat.one_mul] at this
    rw [Nat.mul_comm B d]
    omega
  refine ⟨Nat.mod_lt _ hd, fun i hi => ?_, ?_⟩
  · by_cases e : i = j
    · rw [e, upd_same]; exact hq
    · rw [upd_other e]; exact h3 i hi
  · have e0 : n - j = n - (j + 1) + 1 := by omega
    rw [e0, num_head, num_head, Nat.add_zero, upd_same, hx]
    rw [num_congr (f := fun i => upd q j ((r * B + x) / d) (j + (1 + i))) (g := fun i => q (j + 1 + i)) (fun i _ => by rw [upd_other (by omega), ← Nat.add_assoc])]
    rw [num_congr (f := fun i => f (j + (1 + i))) (g := fun i => f (j + 1 + i)) (fun i _ => by rw [← Nat.add_assoc])]
    have e2 := Nat.div_add_mod (r * B + x) d
    rw [← h4]
    generalize (r * B + x) / d = p at *
    generalize (r * B + x) % d = s at *
    generalize num B (fun i => q (j + 1 + i)) (n - (j + 1)) = T at *
    rw [Nat.add_mul, Nat.mul_add, Nat.mul_assoc]
    rw [Nat.mul_comm d p] at e2
    have e3 : B * r = r * B := Nat.mul_comm _ _
    omega

theorem SmRel.done {B : Nat} {f q : Nat → Nat} {d n r : Nat} (h : SmRel B f d n 0 q r) : num B q n = num B f n / d ∧ r = num B f n % d := by
  obtain ⟨h1, h3, h4⟩ := h
  have e0 : ∀ q : Nat → Nat, (fun i => q (0 + i)) = q := fun q => by funext i; rw [Nat.zero_add]
  rw [e0, e0, Nat.sub_zero] at h4
  rw [← h4]
  constructor
  · rw [Nat.mul_comm, Nat.mul_add_div (by omega), Nat.div_eq_of_lt h1, Nat.add_zero]
  · rw [Nat.mul_comm, Nat.mul_add_mod, Nat.mod_eq_of_lt h1]

set_option maxRecDepth 4000 in
set_option maxHeartbeats 1000000 in
theorem small_any (v : Value) (n : Nat) (h : Nat → Nat) (w : World) (hv : Sl .i64 w v n h) (hd : ∀ i, i < n → h i < 65536) (hn : n ≤ 1000000000000) :
    Calls Try.prog 83 #[v, .int .i64 10] w fun e w' => ∃ (m : Nat) (q : Nat → Nat) (v' : Value), e = .returned (.tuple #[v', .int .i64 (num 65536 h n % 10 : Nat)]) ∧ Own .i64 3 w' w.heap.size v' m q ∧ Below w.heap.size w w' ∧ Can 65536 q m ∧ m ≤ n ∧ num 65536 q m = num 65536 h n / 10 := by
  obtain ⟨ao, cap, rfl, h1, h2, h0, h3⟩ := hv
  clear h0
  go_enter Try.func83, Try.ntmps83
  go_wp2_with (at_make; refine wpList_mkI rfl _ _ rfl .i64 .i64 _ _ n rfl rfl rfl rfl (by omega) ?_; intro w1 hr1 hb1)
  go_loopw [7, 8] (fun t7 t8 wr => ∃ (j r : Nat) (q : Nat → Nat), j ≤ n ∧ t8 = .int .i64 ((j : Int) - 1) ∧ t7 = .int .i64 r ∧ RowAt .i64 3 wr w.heap.size n n q ∧ Below w.heap.size w wr ∧ SmRel 65536 h 10 n j q r) (fun _ t8 _ => (intOf t8 + 1).toNat)
  case atStart => exact ⟨n, 0, fun _ => 0, Nat.le_refl _, rfl, rfl, hr1, hb1, ⟨by decide, fun _ _ => (by decide : (0 : Nat) < 65536), by simp [num]⟩⟩
  case round =>
    obtain ⟨j, r, q, hj, rfl, rfl, hr, hb, hrl⟩ := hrel
    clear hr1 hb1
    by_cases hj0 : j = 0
    · subst hj0
      have hq := hrl.2.1
      obtain ⟨e1, e2⟩ := hrl.done
      have HE := hide (And.intro e1 e2)
      have hsz := hb.size
      clear hrl e1 e2
      go_wp2_with fail
      refine (rtrim_any _ n q _ ((hr.own (Nat.le_refl w.heap.size) (by omega)).sl) (by omega)).mono ?_
      rintro e w5 ⟨p, v5, rfl, o5, b5, l5, z5, t5⟩
      go_wp2_with fail
      go_ret2
      refine ⟨p, q, v5, ?_, o5.mono hsz, hb.trans (b5.mono hsz), ⟨fun i hi => hq i (by omega), t5⟩, l5, ?_⟩
      · rw [← (unhide HE).2]
        rfl
      · rw [← num_tail l5 z5]
        exact (unhide HE).1
    · obtain ⟨i, rfl⟩ : ∃ i, j = i + 1 := ⟨j - 1, by omega⟩
      rcases h3 with h3 | ⟨bl, off, rfl, hc⟩
      · omega
      have hbl := Rd.lt hc (by omega)
      have hx := (hb.cell (p := ⟨bl, off + i, none⟩) hbl).trans (hc i (by omega))
      have hxl := hd i (by omega)
      have hrd : r < 10 := hrl.1
      have hfr := hr.free i
      have hcl := hr.cell (i := i) (by omega)
      have HS := hide (hrl.step (x := h i) (by omega) rfl hxl)
      have HR := hide hr
      have HB := hide hb
      clear hrl hr hb hc hd
      generalize h i = x at *
      rw [show (((i + 1 : Nat) : Int) - 1) = (i : Int) from by omega]
      have hdv : Int.tdiv ((r : Int) * 65536 + (x : Int)) 10 = (((r * 65536 + x) / 10 : Nat) : Int) := by
        rw [show ((r : Int) * 65536 + (x : Int)) = ((r * 65536 + x : Nat) : Int) from by omega]
        rfl
      have hmd : Int.tmod ((r : Int) * 65536 + (x : Int)) 10 = (((r * 65536 + x) % 10 : Nat) : Int) := by
        rw [show ((r : Int) * 65536 + (x : Int)) = ((r * 65536 + x : Nat) : Int) from by omega]
        rfl
      go_wp2_with fail
      go_roundw
      case rel => exact ⟨i, _, _, by omega, by go_num, by go_num, (unhide HR).set (by omega) _, (unhide HB).setCell (Nat.le_refl _) _, unhide HS⟩
      case measure => simp [intOf]

/-- Behind k digits, the lowest first: V is the k digits and what is left, X, behind them. -/
def TenRel (V k : Nat) (D : Nat → Nat) (X : Nat) : Prop :=
  (∀ i, i < k → D i ≤ 9) ∧ V = num 10 D k + X * 10 ^ k ∧ (X = 0 → k = 0 ∨ D (k - 1) ≠ 0)

theorem TenRel.step {V k X : Nat} {D : Nat → Nat} (h : TenRel V k D X) (hX : 0 < X) : TenRel V (k + 1) (upd D k (X % 10)) (X / 10) := by
  obtain ⟨h1, h2, h3⟩ := h
  refine ⟨fun i hi => ?_, ?_, fun hz => .inr ?_⟩
  · by_cases e : i = k
    · rw [e, upd_same]; omega
    · rw [upd_other e]; exact h1 i (by omega)
  · rw [num_succ, upd_same, num_congr (g := D) (fun i hi => upd_other (by omega)), h2, Nat.pow_succ]
    generalize 10 ^ k = P
    have : X % 10 * P + X / 10 * (P * 10) = X * P := by
      rw [Nat.mul_comm P, ← Nat.mul_assoc, ← Nat.add_mul, Nat.mul_comm _ 10, Nat.mod_add_div]
    omega
  · rw [Nat.add_sub_cancel, upd_same]
    omega

/-- So many digits to the base 65536 make at most five times as many decimal ones. -/
theorem TenRel.few {V k X n : Nat} {D : Nat → Nat} (h : TenRel V k D X) (hX : 0 < X) (hV : V < 65536 ^ n) : k < 5 * n := by
  have h2 := h.2.1
  have h3 : 1 * 10 ^ k ≤ X * 10 ^ k := Nat.mul_le_mul_right _ hX
  have h4 : 65536 ^ n ≤ 10 ^ (5 * n) := by
    rw [Nat.pow_mul]
    exact Nat.pow_le_pow_left (by decide) n
  apply Nat.lt_of_not_le
  intro hle
  have h5 : 10 ^ (5 * n) ≤ 10 ^ k := Nat.pow_le_pow_right (by decide) hle
  omega

theorem dec_rev (D : Nat → Nat) (k : Nat) : dec (fun j => D (k - 1 - j)) k = num 10 D k := by
  induction k with
  | zero => rfl
  | succ k ih =>
    rw [num_succ, ← ih, Nat.add_comm k 1, dec_split]
    rw [dec_congr (d := fun i => D (1 + k - 1 - (1 + i))) (e := fun j => D (k - 1 - j)) (fun i _ => by rw [show 1 + k - 1 - (1 + i) = k - 1 - i from by omega])]
    simp only [dec, Nat.zero_mul, Nat.zero_add]
    rw [show 1 + k - 1 - 0 = k from by omega]
    omega

/-- Digits turned round as far as place i. -/
def turn (D : Nat → Nat) (k i : Nat) : Nat → Nat := fun j => if j < i ∨ k - i ≤ j then 48 + D (k - 1 - j) else 48 + D j

theorem turn_step (D : Nat → Nat) (i j : Nat) (h : i < j) : ∀ x, x < i + j + 1 → upd (upd (turn D (i + j + 1) i) i (48 + D j)) j (48 + D i) x = turn D (i + j + 1) (i + 1) x := by
  intro x hx
  by_cases e1 : x = j
  · subst e1
    rw [upd_same]
    unfold turn
    rw [if_pos (by omega), show i + x + 1 - 1 - x = i from by omega]
  · rw [upd_other e1]
    by_cases e2 : x = i
    · subst e2
      rw [upd_same]
      unfold turn
      rw [if_pos (by omega), show x + j + 1 - 1 - x = j from by omega]
    · rw [upd_other e2]
      unfold turn
      by_cases c : x < i ∨ i + j + 1 - i ≤ x
      · rw [if_pos c, if_pos (by omega)]
      · rw [if_neg c, if_neg (by omega)]

theorem turn_done (D : Nat → Nat) (k j : Nat) (hj : j < k) : turn D k (k / 2) j = 48 + D (k - 1 - j) := by
  unfold turn
  by_cases c : j < k / 2 ∨ k - k / 2 ≤ j
  · rw [if_pos c]
  · rw [if_neg c, show k - 1 - j = j from by omega]

set_option maxRecDepth 4000 in
set_option maxHeartbeats 2000000 in
theorem rtext_any (v : Value) (n : Nat) (f : Nat → Nat) (w : World) (hv : Sl .u32 w v n f) (hf : ∀ i, i < n → f i < 4294967296) (hn : n ≤ 400000000000) :
    Calls Try.prog 66 #[v] w fun e w' => ∃ s, e = .returned (.string s) ∧ Below w.heap.size w w' ∧ Says s (num 4294967296 f n) := by
  obtain ⟨i, hi, hz0, hz1, hz2⟩ := info_parts infoB
  go_enter Try.func66, Try.ntmps66
  go_wp2_with fail
  refine (half_any v n f _ hv hf (by omega)).mono ?_
  rintro e w1 ⟨m0, h0, v1, rfl, o1, b1, c1, l1, s1⟩
  have HS := hide s1
  have hV := num_lt c1.1
  rw [s1] at hV
  have HV := hide hV
  have hsz1 := b1.size
  clear s1 hv hf hV
  by_cases hm0 : m0 = 0
  · subst hm0
    obtain ⟨ao1, cap1, rfl, -⟩ := id o1.sl
    go_wp2_with fail
    go_ret
    refine ⟨⟨#[48]⟩, rfl, b1, ?_⟩
    rw [← unhide HS]
    refine ⟨fun _ => 0, Nat.le_refl _, fun i h => ?_, rfl, .inl rfl⟩
    have e : i = 0 := by have : i < 1 := h; omega
    subst e
    exact ⟨rfl, Nat.zero_le _⟩
  · have hb : ((m0 : Int) == 0) = false := beq_eq_false_iff_ne.2 (by omega)
    have hs1 := o1.sl
    obtain ⟨ao1, cap1, rfl, -⟩ := id hs1
    have hpos : 0 < num 65536 h0 m0 := by
      have := num_ge (B := 65536) (f := h0) (n := m0) (by omega) (by rcases c1.2 with h | h; omega; exact h)
      have : 0 < 65536 ^ (m0 - 1) := Nat.pos_of_ne_zero (by simp)
      omega
    have HPOS := hide hpos
    clear hpos o1
    go_wp2_with fail
    go_loopw [3, 4] (fun u3 u4 wr => ∃ (m k : Nat) (q D : Nat → Nat), Sl .i64 wr u3 m q ∧ Can 65536 q m ∧ m ≤ m0 ∧ Own .u8 5 wr w1.heap.size u4 k (fun i => 48 + D i) ∧ Below w1.heap.size w1 wr ∧ k ≤ 5 * m0 ∧ Hid (TenRel (num 4294967296 f n) k D (num 65536 q m))) (fun _ u4 _ => 5 * m0 - lenOf u4)
    case atStart => exact ⟨m0, 0, h0, fun _ => 0, hs1, c1, Nat.le_refl _, .inl ⟨rfl, rfl⟩, Below.refl _ _, by omega, hide ⟨fun i hi => by omega, by rw [unhide HS]; simp [num], fun _ => .inl rfl⟩⟩
    case round =>
      clear hs1 c1
      obtain ⟨m, k, q, D, hsl, hc, hm, hown, hbel, hk, HT⟩ := hrel
      obtain ⟨ao3, cap3, rfl, -⟩ := id hsl
      have hszr := hbel.size
      by_cases hm1 : m = 0
      · subst hm1
        obtain ⟨hD, hVk, hDk⟩ := unhide HT
        rw [num_zero] at hVk hDk
        have hk0 : k ≠ 0 := by
          rintro rfl
          have := unhide HPOS
          rw [unhide HS, hVk] at this
          simp [num] at this
        have hd0 : D (k - 1) ≠ 0 := by rcases hDk rfl with h | h; exact absurd h hk0; exact h
        have HD := hide (And.intro hD (And.intro hVk hd0))
        clear hD hVk hDk hd0 HT HPOS
        rcases hown with ⟨h, h'⟩ | ⟨g, cap, rfl, hg, hcap, hr⟩
        · exact absurd h' hk0
        have hr0 : RowAt .u8 5 wr g cap k (turn D k 0) := hr.congr (fun j hj => by unfold turn; rw [if_neg (by omega)])
        clear hr
        go_wp2_with fail
        go_loopw [7] (fun t7 wx => ∃ i : Nat, i ≤ k / 2 ∧ t7 = .int .i64 i ∧ RowAt .u8 5 wx g cap k (turn D k i) ∧ Below w1.heap.size w1 wx) (fun t7 _ => k - (intOf t7).toNat)
        case atStart => exact ⟨0, Nat.zero_le _, rfl, hr0, hbel⟩
        case round =>
          clear hr0 hbel hszr
          obtain ⟨i, hi2, rfl, hr, hbx⟩ := hrel
          have hdv : Int.tdiv (k : Int) 2 = ((k / 2 : Nat) : Int) := rfl
          by_cases hlt : i < k / 2
          · obtain ⟨j, rfl⟩ : ∃ j, k = i + j + 1 := ⟨k - 1 - i, by omega⟩
            have hx := hr.cell (i := i) (by omega)
            have hy := hr.cell (i := j) (by omega)
            have hfx := hr.free i
            have hfy := hr.free j
            have hcx : turn D (i + j + 1) i i = 48 + D i := by unfold turn; rw [if_neg (by omega)]
            have hcy : turn D (i + j + 1) i j = 48 + D j := by unfold turn; rw [if_neg (by omega)]
            rw [hcx] at hx
            rw [hcy] at hy
            clear hcx hcy
            have HR := hide hr
            clear hr
            have hw1 : IntKind.i64.wrap ((i : Int) + (j : Int) + 1 - 1) = (i : Int) + (j : Int) := by rw [IntKind.wrap_i64]; omega
            have hw2 : IntKind.i64.wrap ((i : Int) + (j : Int) - (i : Int)) = (j : Int) := by rw [IntKind.wrap_i64]; omega
            have hx' : wr.drew.cell? ⟨g, i, none⟩ = some (.int .u8 ((48 + D i : Nat) : Int)) := hx
            have hy' : wr.drew.cell? ⟨g, j, none⟩ = some (.int .u8 ((48 + D j : Nat) : Int)) := hy
            go_wp2_with fail
            go_region
            go_wp2_with fail
            go_roundw
            case rel =>
              have e1 : ((48 + D j : Nat) : Int) = 48 + (D j : Int) := by omega
              have e2 : ((48 + D i : Nat) : Int) = 48 + (D i : Int) := by omega
              have h1 := ((unhide HR).set (i := i) (by omega) (48 + D j)).set (i := j) (by omega) (48 + D i)
              rw [e1, e2] at h1
              have h2 := h1.congr (turn_step D i j (by omega))
              exact ⟨i + 1, by omega, by go_num, h2, ((hbx.setCell hg _).setCell hg _).drew⟩
            case measure => simp [intOf]; omega
          · obtain rfl : i = k / 2 := by omega
            obtain ⟨hD, hVk, hd0⟩ := unhide HD
            have hrd : RowAt .u8 5 wr g cap k (fun j => 48 + (fun j => D (k - 1 - j)) j) := hr.congr (fun j hj => turn_done D k j hj)
            have hconv := conv_digits _ g cap k _ (fun j => D (k - 1 - j)) (fun j hj => hD _ (by omega)) hrd
            clear hr hrd
            go_wp2_with fail
            go_ret
            refine ⟨_, rfl, b1.trans (hbx.mono hsz1), says_mk (fun j => D (k - 1 - j)) k _ (fun j hj => hD _ (by omega)) (by omega) ?_ (.inr ?_)⟩
            · rw [dec_rev, hVk]
              omega
            · show D (k - 1 - 0) ≠ 0
              exact hd0
      · have hX : 0 < num 65536 q m := by
          have := num_ge (B := 65536) (f := q) (n := m) (by omega) (by rcases hc.2 with h | h; omega; exact h)
          have : 0 < 65536 ^ (m - 1) := Nat.pos_of_ne_zero (by simp)
          omega
        have hfew := (unhide HT).few hX (unhide HV)
        have HST := hide ((unhide HT).step hX)
        have hxp : (0 : Int) < (m : Int) := by omega
        clear HT hX
        go_wp2_with fail
        refine (small_any _ m q _ hsl hc.1 (by omega)).mono ?_
        rintro e w2 ⟨m2, q2, v2, rfl, o2, b2, c2, l2, s2⟩
        replace b2 : Up wr w2 := b2
        have hsz2 := Below.size b2
        have HS2 := hide s2
        have hr10 : num 65536 q m % 10 < 10 := Nat.mod_lt _ (by decide)
        clear s2
        generalize hrr : num 65536 q m % 10 = r at *
        have hown2 := hown.up b2
        have hrow := hown2.row
        have hlt4 : ∀ g, u4.ownBlock = some g → g < wr.heap.size := fun g hg => (hown.row.lt g hg).2
        have hwb : IntKind.u8.wrap (48 + (r : Int)) = 48 + (r : Int) := by
          simp only [IntKind.wrap, IntKind.bits, IntKind.signed]
          simp
          omega
        go_wp2_with (at_builtin; refine wpList_append_own _ rfl _ _ 72 rfl w1.heap.size 5 i (.int .u8 0) 1 1 Try.underlying72 hi hz0 hz1 hz2 rfl (by decide) _ _ _ rfl (hrow.alloc _) ⟨w2.heap.size, 0, none⟩ 1 1 [.int .u8 (48 + (r : Int))] rfl rfl (cells_one _ _ _) (fun u hu => by simp at hu; subst hu; rfl) (by unfold maxLen; omega) (by omega) (by simp; omega) ?_; intro v4 w4 hown4 hgrow4 hx4)
        have hown5 : Own .u8 5 w4 w1.heap.size v4 (k + 1) (fun i => 48 + upd D k r i) := Own.of_row hown4 (fun j hj => by
          by_cases e : j = k
          · subst e
            rw [upd_same, List.getElem?_append_right (by rw [cellsOf_length]; exact Nat.le_refl _), cellsOf_length]
            simp
          · rw [upd_other e, List.getElem?_append_left (by rw [cellsOf_length]; omega), cellsOf_get _ _ _ _ (by omega)])
        have hs4 : Sl .i64 w4 v2 m2 q2 := by
          rcases o2 with ⟨rfl, rfl⟩ | ⟨g2, cap2, rfl, hg2, hcap2, r2⟩
          · exact ⟨none, 0, rfl, Nat.le_refl _, by omega, fun _ => rfl, .inl rfl⟩
          · have hlt2 := r2.lt
            have hbk : w4.heap[g2]? = w2.heap[g2]? := (hgrow4.block _ (by simp; omega) (fun e => by have := hlt4 g2 e.symm; omega)).trans (Below.heap_alloc w2 _ _ (by omega))
            exact ((r2.block hbk).own (Nat.le_refl _) hcap2).sl
        have hb4 : Below w1.heap.size w1 w4 := ((hbel.trans (Below.mono b2 hszr)).alloc (by omega) _).grown hgrow4 (by simp; omega) (fun j hj => (hrow.lt j hj).1)
        have hlen : lenOf v4 = k + 1 := by
          rcases hown5 with ⟨h, h'⟩ | ⟨g, cp, h, _⟩
          · omega
          · rw [h]; rfl
        have hlen0 : lenOf u4 = k := by
          rcases hown with ⟨h, h'⟩ | ⟨g, cp, h, _⟩
          · rw [h, h']; rfl
          · rw [h]; rfl
        have HL := hide hlen
        have HL0 := hide hlen0
        clear hown4 hgrow4 hx4 hrow hown hown2 hlt4 hlen hlen0 o2 hbel b2
        go_wp2_with fail
        go_roundw
        case rel => exact ⟨m2, k + 1, q2, _, hs4, c2, by omega, hown5, hb4, by omega, by rw [unhide HS2]; exact HST⟩
        case measure => rw [unhide HL, unhide HL0]; omega

set_option maxRecDepth 4000 in
set_option maxHeartbeats 4000000 in
theorem r2text_rd {X : Int} {M : Nat} {w : World} {a : Value} (ha : RdD X M w a) (hM : 2 * M + 3 ≤ 10000000000) :
    Calls Try.prog 42 #[a] w fun e w' => ∃ s, e = .returned (.string s) ∧ SaysZ s X ∧ Up w w' := by
  obtain ⟨b0, ao0, n0, cap0, rfl⟩ := ha.agg
  have U0 := up_alloc w (.cells #[.bool b0, .slice ao0 n0 cap0] 33)
  have K0 := hide (heap_alloc_new w (.cells #[.bool b0, .slice ao0 n0 cap0] 33))
  have HA := hide ha
  clear ha
  go_enter Try.func42, Try.ntmps42
  go_wp2_with fail
  refine (r2canon_rd ((unhide HA).up U0) (by omega)).mono ?_
  rintro e w1 ⟨v1, rfl, ⟨b, n, f, ⟨v, rfl, o⟩, c, l, s⟩, u1⟩
  obtain ⟨ao, cap, rfl, -⟩ := id o.sl
  obtain ⟨d0, d1, f0, f1, -⟩ := cells2 (Up.blk u1 (unhide K0))
  obtain ⟨t1, k1⟩ := sto_two (Up.blk u1 (unhide K0)) (.bool b) (.slice ao n cap)
  obtain ⟨c0, c1, -⟩ := cells2 k1
  have u2 : Up w _ := t1.up (U0.tr u1) (Nat.le_refl _)
  have o2 := o.keep (fun b hb _ => t1.block b (by simp at hb; omega))
  have hp : b = true → X < 0 := by
    intro hb
    have hn := c.2 hb
    have hq : 0 < num 4294967296 f n := by
      rcases c.1.2 with h0 | h0
      · omega
      · have := num_ge (B := 4294967296) (f := f) (n := n) (by omega) h0
        have h1 : 0 < (4294967296 : Nat) ^ (n - 1) := Nat.pow_pos (by decide)
        omega
    rw [← s, hb]
    simp only [sgn]
    simp
    omega
  have HS := hide (And.intro s hp)
  clear s hp
  cases b
  · go_wp2_with fail
    refine (rtext_any _ n f _ o2.sl c.1.1 (by omega)).mono ?_
    rintro e w3 ⟨t, rfl, u3, h3⟩
    have u3 : Up _ w3 := u3
    have hts : t.size ≤ 100000000000 := by have := says_size h3 (num_lt_pow c.1.1 l); omega
    have H3 := hide h3
    clear h3
    go_wp2_with fail
    go_ret
    refine ⟨_, rfl, .inl ?_, u2.tr u3⟩
    rw [← (unhide HS).1]
    have := unhide H3
    simp only [sgn]
    simpa using this
  · go_wp2_with fail
    refine (rtext_any _ n f _ o2.sl c.1.1 (by omega)).mono ?_
    rintro e w3 ⟨t, rfl, u3, h3⟩
    have u3 : Up _ w3 := u3
    have hts : t.size ≤ 100000000000 := by have := says_size h3 (num_lt_pow c.1.1 l); omega
    have H3 := hide h3
    clear h3
    go_wp2_with fail
    go_ret
    refine ⟨_, rfl, .inr ⟨(unhide HS).2 (by simp), t, rfl, ?_⟩, u2.tr u3⟩
    rw [← (unhide HS).1]
    have := unhide H3
    simp only [sgn]
    simpa using this

end Go.Proofs.Yteipogfolnlblaa
