/-
  What is proved here: the document's own trim, half, full, Of and Canon: the canonical number of the same value.
-/
import Derived.Test.YtilcigjhogcjkaaBase
import Derived.Test.YtilcigjhogcjkaaHBase
import Derived.Test.YtilcigjhogcjkaaJA
import Derived.Test.YtilcigjhogcjkaaProg
import Derived.WalkLawsBesides
import Derived.Laws.BitsAllLaws
import Derived.Laws.CopyOwn
import Derived.Laws.AppendOwnNone
import Derived.Deep.RegionWith
import Derived.Deep.QuietTactic
import Derived.BigQuiet
import Derived.Handy
import Derived.Deep.RegionHeld3
import Derived.Deep.AppendLies
namespace Go.Proofs.Ytilcigjhogcjkaa
open Go Go.RowKit
/-- h, and noughts from m on. -/
def cut (h : Nat → Nat) (m : Nat) : Nat → Nat := fun i => if i < m then h i else 0

theorem cut_in {h : Nat → Nat} {m i : Nat} (hi : i < m) : cut h m i = h i := by simp [cut, hi]

theorem cut_out {h : Nat → Nat} {m i : Nat} (hi : m ≤ i) : cut h m i = 0 := by simp [cut]; omega

theorem num_cut {B : Nat} {h : Nat → Nat} {m n : Nat} (hn : m ≤ n) : num B (cut h m) n = num B h m := by
  rw [num_tail hn (fun i h1 _ => cut_out h1), num_congr (g := h) (fun i hi => cut_in hi)]

theorem infoI : (Try.prog.info? 3).map (fun i => (i.zero, i.size, i.bytes)) = some (some (.int .i64 0), 1, 8) := by kernel_rfl

theorem cells_one (w : World) (a : Value) (E : TypeId) : ∀ j u, [a][j]? = some u → (w.alloc (.cells #[a] E)).cell? ((⟨w.heap.size, 0, none⟩ : Addr).add j) = some u := by
  intro j u hj
  rw [Addr.add_lit, cell_of_row _ _ _ _ _ _ (heap_alloc_new w _), Nat.zero_add]
  simpa using hj

/-- The sum of the first k lists' numbers. -/
def total (ns : Nat → Nat) (fs : Nat → Nat → Nat) : Nat → Nat
  | 0 => 0
  | k + 1 => total ns fs k + num 4294967296 (fs k) (ns k)

/-- The values of a row, as a list. -/
def valsOf (vs : Nat → Value) (n : Nat) : List Value := (List.range n).map vs

theorem valsOf_get (vs : Nat → Value) (n i : Nat) (h : i < n) : (valsOf vs n)[i]? = some (vs i) := by simp [valsOf, h]

theorem Rds.cells {w w' : World} {mo : Option Addr} {k : Nat} {vs : Nat → Value} (h : Rds w mo k vs) (hb : Below w.heap.size w w') : ∀ ad, mo = some ad → ∀ j u, (valsOf vs k)[j]? = some u → w'.cell? (ad.add j) = some u := by
  rintro ad rfl j u hj
  have hl : j < k := by
    have := (List.getElem?_eq_some_iff.1 hj).1
    simpa [valsOf] using this
  rcases h.below hb (Nat.le_refl _) with h | ⟨b, off, e, hc⟩
  · omega
  · cases e
    rw [valsOf_get vs k j hl] at hj
    rw [Addr.add_lit, hc j hl]
    exact hj

theorem cells2 {w : World} {g : Nat} {c0 c1 : Value} {E : TypeId} (h : w.heap[g]? = some (.cells #[c0, c1] E (0, 0))) :
    w.cell? ⟨g, 0, none⟩ = some c0 ∧ w.cell? ⟨g, 1, none⟩ = some c1 ∧ w.frozen? ⟨g, 0, none⟩ = false ∧ w.frozen? ⟨g, 1, none⟩ = false ∧ g < w.heap.size :=
  ⟨by rw [cell_of_row w g 0 _ E (0, 0) h]; rfl, by rw [cell_of_row w g 1 _ E (0, 0) h]; rfl, frozen_of_row w g 0 _ E h, frozen_of_row w g 1 _ E h, (Array.getElem?_eq_some_iff.1 h).1⟩

/-- What was just set is read. -/
theorem back2 {w1 : World} {g : Nat} {c0 c1 : Value} {E : TypeId} (h : w1.heap[g]? = some (.cells #[c0, c1] E (0, 0))) :
    (∀ x, (w1.setCell ⟨g, 0, none⟩ x).cell? ⟨g, 0, none⟩ = some x) ∧ ∀ x y, ((w1.setCell ⟨g, 0, none⟩ x).setCell ⟨g, 1, none⟩ y).cell? ⟨g, 1, none⟩ = some y := by
  have h1 := fun x => heap_setCell_same w1 g 0 _ E x h
  have h2 := fun x y => heap_setCell_same (w1.setCell ⟨g, 0, none⟩ x) g 1 _ E y (h1 x)
  exact ⟨fun x => by rw [cell_of_row _ g 0 _ E (0, 0) (h1 x)]; rfl, fun x y => by rw [cell_of_row _ g 1 _ E (0, 0) (h2 x y)]; rfl⟩

/-- The block that was laid last ahead of a call, behind it. -/
theorem res2 {V w1 : World} {c0 c1 : Value} {E : TypeId} (g : Nat) (hg : g = V.heap.size) (u : Up (V.alloc (.cells #[c0, c1] E)) w1) :
    w1.cell? ⟨g, 0, none⟩ = some c0 ∧ w1.cell? ⟨g, 1, none⟩ = some c1 ∧ w1.frozen? ⟨g, 0, none⟩ = false ∧ w1.frozen? ⟨g, 1, none⟩ = false ∧ g < w1.heap.size ∧
      (∀ x, (w1.setCell ⟨g, 0, none⟩ x).cell? ⟨g, 0, none⟩ = some x) ∧ ∀ x y, ((w1.setCell ⟨g, 0, none⟩ x).setCell ⟨g, 1, none⟩ y).cell? ⟨g, 1, none⟩ = some y := by
  subst hg
  obtain ⟨h1, h2, h3, h4, h5⟩ := cells2 (u.blk (heap_alloc_new V _))
  exact ⟨h1, h2, h3, h4, h5, back2 (u.blk (heap_alloc_new V _))⟩

/-- A number (api.Num) that is handed about: its sign, and its limbs. -/
def Nm (w : World) (a : Value) (b : Bool) (n : Nat) (f : Nat → Nat) : Prop := ∃ v, a = .agg #[.bool b, v] ∧ Sl .u32 w v n f

/-- A number that is worked at. -/
def Wk (w : World) (a : Value) (b : Bool) (n : Nat) (f : Nat → Nat) : Prop := ∃ v, a = .agg #[v, .bool b] ∧ Sl .u32 w v n f

theorem Nm.up {w w' : World} {a : Value} {b : Bool} {n : Nat} {f : Nat → Nat} (h : Nm w a b n f) (u : Up w w') : Nm w' a b n f := by
  obtain ⟨v, e, s⟩ := h
  exact ⟨v, e, s.up u⟩

theorem Wk.up {w w' : World} {a : Value} {b : Bool} {n : Nat} {f : Nat → Nat} (h : Wk w a b n f) (u : Up w w') : Wk w' a b n f := by
  obtain ⟨v, e, s⟩ := h
  exact ⟨v, e, s.up u⟩

/-- What a number says. -/
def sgn (b : Bool) (x : Nat) : Int := if b then -(x : Int) else x

/-- Canonical: no limb 0 at the end, 0 without its sign. -/
def CanZ (b : Bool) (f : Nat → Nat) (n : Nat) : Prop := Can 4294967296 f n ∧ (b = true → n ≠ 0)

theorem CanZ.of {b : Bool} {f : Nat → Nat} {n : Nat} (h : Can 4294967296 f n) : CanZ (b && !decide (n = 0)) f n :=
  ⟨h, fun e => by simp at e; exact e.2⟩

/-- Two cells of a block from 'base' on turned. -/
theorem Up.set2 {w w1 : World} {g : Nat} {x y : Value} (u : Up w w1) (hg : w.heap.size ≤ g) : Up w ((w1.setCell ⟨g, 0, none⟩ x).setCell ⟨g, 1, none⟩ y) :=
  Below.setCell (p := ⟨g, 1, none⟩) (Below.setCell (p := ⟨g, 0, none⟩) u hg x) hg y

/-- A number in memory of the call's own. -/
def OwnN (w : World) (base : Nat) (a : Value) (b : Bool) (n : Nat) (f : Nat → Nat) : Prop := ∃ v, a = .agg #[.bool b, v] ∧ Own .u32 65 w base v n f

theorem Own.set2 {k : IntKind} {E : TypeId} {w : World} {base g : Nat} {v x y : Value} {n : Nat} {f : Nat → Nat} (h : Own k E w base v n f) (hg : g < base) : Own k E ((w.setCell ⟨g, 0, none⟩ x).setCell ⟨g, 1, none⟩ y) base v n f := by
  rcases h with ⟨rfl, rfl⟩ | ⟨g', cap, rfl, h1, h2, h3⟩
  · exact .inl ⟨rfl, rfl⟩
  · exact .inr ⟨g', cap, rfl, h1, h2, h3.block ((heap_setCell_other _ _ _ _ (by show g' ≠ g; omega)).trans (heap_setCell_other _ _ _ _ (by show g' ≠ g; omega)))⟩

/-- The halves of limbs: the low one, then the high one. -/
def hv (f : Nat → Nat) : Nat → Nat := fun i => if i % 2 = 0 then f (i / 2) % 65536 else f (i / 2) / 65536

theorem hv_lo (f : Nat → Nat) (k : Nat) : hv f (2 * k) = f k % 65536 := by
  unfold hv; rw [if_pos (by omega), show 2 * k / 2 = k from by omega]

theorem hv_hi (f : Nat → Nat) (k : Nat) : hv f (2 * k + 1) = f k / 65536 := by
  unfold hv; rw [if_neg (by omega), show (2 * k + 1) / 2 = k from by omega]

theorem hv_lt {f : Nat → Nat} {n : Nat} (hf : ∀ i, i < n → f i < 4294967296) : ∀ i, i < 2 * n → hv f i < 65536 := by
  intro i hi
  have := hf (i / 2) (by omega)
  unfold hv
  split <;> omega

/-- Pairs of halves are limbs. -/
theorem num_pairs (h F : Nat → Nat) (k : Nat) (hF : ∀ j, j < k → F j = h (2 * j) + h (2 * j + 1) * 65536) : num 65536 h (2 * k) = num 4294967296 F k := by
  induction k with
  | zero => rfl
  | succ k ih =>
    rw [show 2 * (k + 1) = 2 * k + 1 + 1 from by omega, num_succ, num_succ, ih (fun j hj => hF j (by omega)), num_succ, hF k (by omega)]
    have e : (4294967296 : Nat) ^ k = 65536 ^ (2 * k) := by rw [Nat.pow_mul]
    rw [e, Nat.pow_succ, Nat.add_mul]
    generalize 65536 ^ (2 * k) = P
    have e2 : h (2 * k + 1) * 65536 * P = h (2 * k + 1) * (P * 65536) := by rw [Nat.mul_assoc, Nat.mul_comm 65536 P]
    omega

theorem num_hv (f : Nat → Nat) (k : Nat) : num 65536 (hv f) (2 * k) = num 4294967296 f k :=
  num_pairs (hv f) f k (fun j _ => by rw [hv_lo, hv_hi]; omega)

/-- Adding to any base, digit by digit, into a new row. -/
def SumRel (B : Nat) (f g S : Nat → Nat) (k c : Nat) : Prop :=
  c ≤ 1 ∧ (∀ i, i < k → S i < B) ∧ num B S k + c * B ^ k = num B f k + num B g k

theorem SumRel.step {B : Nat} {f g S : Nat → Nat} {k c x y : Nat} (r : SumRel B f g S k c) (hB : 1 < B) (hx : f k = x) (hy : g k = y) (hxl : x < B) (hyl : y < B) :
    SumRel B f g (upd S k ((x + y + c) % B)) (k + 1) ((x + y + c) / B) := by
  obtain ⟨h1, h2, h3⟩ := r
  refine ⟨?_, fun i hi => ?_, ?_⟩
  · have : x + y + c < 2 * B := by omega
    have := (Nat.div_lt_iff_lt_mul (show 0 < B by omega)).2 this
    omega
  · by_cases e : i = k
    · rw [e, upd_same]; exact Nat.mod_lt _ (by omega)
    · rw [upd_other e]; exact h2 i (by omega)
  · rw [num_succ, num_succ, num_succ, upd_same, num_congr (g := S) (fun i hi => upd_other (by omega)), hx, hy, Nat.pow_succ]
    generalize B ^ k = P at *
    have e2 : (x + y + c) % B * P + (x + y + c) / B * (P * B) = (x + y + c) * P := by
      rw [Nat.mul_comm P, ← Nat.mul_assoc, ← Nat.add_mul, Nat.mul_comm _ B, Nat.mod_add_div]
    rw [Nat.add_mul (x + y), Nat.add_mul x] at e2
    omega

theorem own_push {k : IntKind} {E : TypeId} {w : World} {base : Nat} {v : Value} {n x : Nat} {S : Nat → Nat} (h : w.ownsRow base E 1 v (n + 1) (cellsOf k S n ++ [Value.int k (x : Int)])) : Own k E w base v (n + 1) (upd S n x) :=
  Own.of_row h (fun j hj => by
    by_cases e : j = n
    · subst e
      rw [upd_same, List.getElem?_append_right (by rw [cellsOf_length]; exact Nat.le_refl _), cellsOf_length]
      simp
    · rw [upd_other e, List.getElem?_append_left (by rw [cellsOf_length]; omega), cellsOf_get _ _ _ _ (by omega)])

theorem own_push2 {k : IntKind} {E : TypeId} {w : World} {base : Nat} {v : Value} {n x y : Nat} {S : Nat → Nat} (h : w.ownsRow base E 1 v (n + 2) (cellsOf k S n ++ [Value.int k (x : Int), Value.int k (y : Int)])) (hx : S n = x) (hy : S (n + 1) = y) : Own k E w base v (n + 2) S :=
  Own.of_row h (fun j hj => by
    by_cases e : j < n
    · rw [List.getElem?_append_left (by rw [cellsOf_length]; omega), cellsOf_get _ _ _ _ e]
    · rw [List.getElem?_append_right (by rw [cellsOf_length]; omega), cellsOf_length]
      by_cases e2 : j = n
      · subst e2; simp [hx]
      · obtain rfl : j = n + 1 := by omega
        simp [hy])

set_option maxRecDepth 4000 in
set_option maxHeartbeats 1000000 in
theorem rtrim_hid (v : Value) (n : Nat) (f : Nat → Nat) (w : World) (hv : Sl .i64 w v n f) (hn : 8 * n ≤ 140737488355328) :
    Calls Try.prog 90 #[v] w fun e w' => Hid (∃ m v', e = .returned v' ∧ Own .i64 3 w' w.heap.size v' m f ∧ Below w.heap.size w w' ∧ m ≤ n ∧ (∀ i, m ≤ i → i < n → f i = 0) ∧ (m = 0 ∨ f (m - 1) ≠ 0)) := by
  obtain ⟨i, hi, hz0, hz1, hz2⟩ := info_parts infoI
  have hnil := World.ownsRow_nil w w.heap.size 3 1
  obtain ⟨ao, cap, rfl, h1, h2, h0, h3⟩ := hv
  by_cases hn0 : n = 0
  · subst hn0
    cases ao with
    | none =>
      obtain rfl := h0 rfl
      go_enter Try.func90, Try.ntmps90
      go_wp2
      refine wp_loop_rounds 1 ?_
      rw [rounds_succ]
      go_wp2_with (at_builtin; refine wpList_append_own_none rfl _ _ 124 rfl w.heap.size 3 i 1 Try.underlying124 hi _ _ _ rfl hnil rfl ?_)
      go_ret
      exact hide ⟨0, _, rfl, .inl ⟨rfl, rfl⟩, Below.refl _ _, Nat.le_refl _, fun i _ hi => by omega, .inl rfl⟩
    | some ad =>
      go_enter Try.func90, Try.ntmps90
      go_wp2
      refine wp_loop_rounds 1 ?_
      rw [rounds_succ]
      go_wp2_with (at_builtin; refine wpList_append_own _ rfl _ _ 124 rfl w.heap.size 3 i (.int .i64 0) 1 8 Try.underlying124 hi hz0 hz1 hz2 rfl (by decide) _ _ _ rfl hnil ad 0 _ [] rfl rfl (fun j u hj => by simp at hj) (fun u hu => by simp at hu) (by unfold maxLen; omega) (by omega) (Nat.le_refl _) ?_; intro v' w1 hown hgrow hx; simp only [Nat.zero_add, List.nil_append] at hown)
      go_ret
      refine hide ⟨0, v', rfl, Own.of_row hown (fun j hj => by omega), Below.of_grown hgrow, ?_⟩
      simp
  · rcases h3 with h3 | ⟨b, off, rfl, hc⟩
    · exact absurd h3 hn0
    go_enter Try.func90, Try.ntmps90
    go_wp2
    go_loop [3] (fun t => ∃ k : Nat, k ≤ n ∧ t = .int .i64 k ∧ ∀ i, k ≤ i → i < n → f i = 0) (fun t => (intOf t).toNat)
    case atStart => exact ⟨n, Nat.le_refl _, rfl, fun i h1 h2 => by omega⟩
    case round =>
      obtain ⟨k, hk, rfl, hz⟩ := hrel
      have hcs := cellsOf_length .i64 f k
      have hcl := cellsOf_read (n := k) (fun i hi => hc i (by omega))
      by_cases hk0 : 0 < k
      · have hx := hc (k - 1) (by omega)
        clear hc
        by_cases he : f (k - 1) = 0
        · have HE : Hid (f (k - 1) = 0) := he
          rw [he] at hx
          clear he
          go_wp2_with fail
          go_round
          case rel => exact ⟨k - 1, by omega, by go_num, fun i h1 h2 => by
            by_cases e : i = k - 1
            · rw [e]; exact HE.out
            · exact hz i (by omega) h2⟩
          case measure => simp [intOf]; omega
        · have hb : ((f (k - 1) : Int) == 0) = false := by simp; omega
          have HE := hide he
          generalize f (k - 1) = y at hx hb
          clear he
          go_wp2_with (at_builtin; refine wpList_append_own _ rfl _ _ 124 rfl w.heap.size 3 i (.int .i64 0) 1 8 Try.underlying124 hi hz0 hz1 hz2 rfl (by decide) _ _ _ rfl hnil ⟨b, off, none⟩ k _ (cellsOf .i64 f k) rfl (by rw [hcs]; omega) hcl (cellsOf_one _ _ _) (by unfold maxLen; omega) (by omega) (Nat.le_refl _) ?_; intro v' w1 hown hgrow hx'; simp only [Nat.zero_add, List.nil_append] at hown)
          go_ret
          exact hide ⟨k, v', rfl, Own.of_row hown (fun j hj => cellsOf_get _ _ _ _ hj), Below.of_grown hgrow, hk, hz, .inr (unhide HE)⟩
      · have e0 : k = 0 := by omega
        subst e0
        go_wp2_with (at_builtin; refine wpList_append_own _ rfl _ _ 124 rfl w.heap.size 3 i (.int .i64 0) 1 8 Try.underlying124 hi hz0 hz1 hz2 rfl (by decide) _ _ _ rfl hnil ⟨b, off, none⟩ 0 _ [] rfl rfl (fun j u hj => by simp at hj) (fun u hu => by simp at hu) (by unfold maxLen; omega) (by omega) (Nat.le_refl _) ?_; intro v' w1 hown hgrow hx'; simp only [Nat.zero_add, List.nil_append] at hown)
        go_ret
        exact hide ⟨0, v', rfl, Own.of_row hown (fun j hj => by omega), Below.of_grown hgrow, by omega, hz, .inl rfl⟩

theorem rtrim_any (v : Value) (n : Nat) (f : Nat → Nat) (w : World) (hv : Sl .i64 w v n f) (hn : 8 * n ≤ 140737488355328) :
    Calls Try.prog 90 #[v] w fun e w' => ∃ m v', e = .returned v' ∧ Own .i64 3 w' w.heap.size v' m f ∧ Below w.heap.size w w' ∧ m ≤ n ∧ (∀ i, m ≤ i → i < n → f i = 0) ∧ (m = 0 ∨ f (m - 1) ≠ 0) :=
  (rtrim_hid v n f w hv hn).mono fun _ _ h => unhide h

set_option maxRecDepth 4000 in
set_option maxHeartbeats 400000 in
theorem at_any (v : Value) (n i : Nat) (f : Nat → Nat) (w : World) (hv : Sl .i64 w v n f) (hi : i ≤ 9223372036854775807) :
    Calls Try.prog 89 #[v, .int .i64 i] w fun e w' => e = .returned (.int .i64 (cut f n i : Nat)) ∧ w' = w := by
  obtain ⟨ao, cap, rfl, h1, h2, h0, h3⟩ := hv
  by_cases hlt : i < n
  · rcases h3 with h3 | ⟨b, off, rfl, hc⟩
    · omega
    have hx := hc i hlt
    rw [cut_in hlt]
    clear hc
    go_enter Try.func89, Try.ntmps89
    go_wp2
    go_ret
    exact ⟨rfl, rfl⟩
  · rw [cut_out (by omega)]
    go_enter Try.func89, Try.ntmps89
    go_wp2
    go_ret
    exact ⟨rfl, rfl⟩

set_option maxRecDepth 4000 in
set_option maxHeartbeats 2000000 in
theorem radd_any (v u : Value) (n m : Nat) (f g : Nat → Nat) (w : World) (hv : Sl .i64 w v n f) (hu : Sl .i64 w u m g) (hf : ∀ i, i < n → f i < 65536) (hg : ∀ i, i < m → g i < 65536) (hn : n ≤ 1000000000000) (hm : m ≤ 1000000000000) :
    Calls Try.prog 84 #[v, u] w fun e w' => ∃ n' f' v', e = .returned v' ∧ Own .i64 3 w' w.heap.size v' n' f' ∧ Below w.heap.size w w' ∧ Can 65536 f' n' ∧ (n' ≤ n + 1 ∨ n' ≤ m + 1) ∧ num 65536 f' n' = num 65536 f n + num 65536 g m := by
  obtain ⟨i, hi, hz0, hz1, hz2⟩ := info_parts infoI
  obtain ⟨ao, cap, ev, -⟩ := id hv
  obtain ⟨bo, capb, eu, -⟩ := id hu
  subst ev eu
  have cf : ∀ i, cut f n i < 65536 := fun i => by by_cases h : i < n; rw [cut_in h]; exact hf i h; rw [cut_out (by omega)]; decide
  have cg : ∀ i, cut g m i < 65536 := fun i => by by_cases h : i < m; rw [cut_in h]; exact hg i h; rw [cut_out (by omega)]; decide
  go_enter Try.func84, Try.ntmps84
  go_wp2_with fail
  go_loopw [5, 6, 7] (fun u5 t6 t7 wr => ∃ (k c : Nat) (S : Nat → Nat), (k ≤ n ∨ k ≤ m) ∧ t7 = .int .i64 k ∧ t6 = .int .i64 c ∧ Own .i64 3 wr w.heap.size u5 k S ∧ Below w.heap.size w wr ∧ SumRel 65536 (cut f n) (cut g m) S k c) (fun _ _ t7 _ => n + m - (intOf t7).toNat)
  case atStart => exact ⟨0, 0, fun _ => 0, .inl (by omega), rfl, rfl, .inl ⟨rfl, rfl⟩, Below.refl _ _, ⟨by omega, fun i hi => by omega, by simp [num]⟩⟩
  case round =>
    obtain ⟨k, c, S, hk, rfl, rfl, hown, hbel, hrl⟩ := hrel
    have hrow := hown.row
    have hsz := hbel.size
    have hc1 : c ≤ 1 := hrl.1
    have hvr := hv.below hbel (Nat.le_refl _)
    have hur := hu.below hbel (Nat.le_refl _)
    by_cases hlt : k < n ∨ k < m
    · have hx := cf k
      have hy := cg k
      have HS := hide (hrl.step (by decide) rfl rfl hx hy)
      have hguard : (decide (k < n) || decide (k < m)) = true := by simp; exact hlt
      clear hrl cf cg hf hg
      have hend : ∀ (v4 : Value) (w4 : World), w4.ownsRow w.heap.size 3 1 v4 (k + 1) (cellsOf .i64 S k ++ [Value.int .i64 ((cut f n k + cut g m k + c) % 65536 : Nat)]) → Own .i64 3 w4 w.heap.size v4 (k + 1) (upd S k ((cut f n k + cut g m k + c) % 65536)) := fun v4 w4 h => own_push h
      have HEND := hide hend
      have HA := hide (fun (w' : World) (h : Sl .i64 w' (Value.slice ao n cap) n f) => at_any _ n k f w' h (by omega))
      have HB := hide (fun (w' : World) (h : Sl .i64 w' (Value.slice bo m capb) m g) => at_any _ m k g w' h (by omega))
      clear hend
      generalize cut f n k = x at *
      generalize cut g m k = y at *
      have hpush : (((x : Int) + (y : Int) + (c : Int)) % 65536) = (((x + y + c) % 65536 : Nat) : Int) := by omega
      have HP := hide hpush
      clear hpush
      by_cases hkn : k < n
      all_goals
        go_wp2_with fail
        refine (unhide HA _ hvr).mono ?_
        rintro e w' ⟨rfl, rfl⟩
        go_wp2_with fail
        refine (unhide HB _ hur).mono ?_
        rintro e w' ⟨rfl, rfl⟩
        go_wp2_with (at_builtin; refine wpList_append_own _ rfl _ _ 124 rfl w.heap.size 3 i (.int .i64 0) 1 8 Try.underlying124 hi hz0 hz1 hz2 rfl (by decide) _ _ _ rfl (hrow.alloc _) ⟨w'.heap.size, 0, none⟩ 1 1 [.int .i64 (((x : Int) + (y : Int) + (c : Int)) % 65536)] rfl rfl (cells_one _ _ _) (fun u hu => by simp at hu; subst hu; rfl) (by unfold maxLen; omega) (by omega) (by simp; omega) ?_; intro v4 w4 hown4 hgrow4 hx4; rw [unhide HP] at hown4; have ho5 := unhide HEND v4 w4 hown4; have hb5 := (hbel.alloc (by omega) _).grown hgrow4 (by simp; omega) (fun j hj => (hrow.lt j hj).1); clear hown4 hgrow4 hx4 hrow hown)
        go_roundw
        case rel => exact ⟨k + 1, _, _, by omega, by go_num, by go_num, ho5, hb5, unhide HS⟩
        case measure => simp [intOf]; omega
    · have e1 : num 65536 (cut f n) k = num 65536 f n := num_cut (by omega)
      have e2 : num 65536 (cut g m) k = num 65536 g m := num_cut (by omega)
      obtain ⟨r1, r2, r3⟩ := hrl
      rw [e1, e2] at r3
      have HR3 := hide r3
      clear e1 e2 r3 cf cg hf hg
      go_wp2_with (at_builtin; refine wpList_append_own _ rfl _ _ 124 rfl w.heap.size 3 i (.int .i64 0) 1 8 Try.underlying124 hi hz0 hz1 hz2 rfl (by decide) _ _ _ rfl (hrow.alloc _) ⟨wr.heap.size, 0, none⟩ 1 1 [.int .i64 c] rfl rfl (cells_one _ _ _) (fun u hu => by simp at hu; subst hu; rfl) (by unfold maxLen; omega) (by omega) (by simp; omega) ?_; intro v4 w4 hown4 hgrow4 hx4; have ho5 := own_push hown4; have hb5 := (hbel.alloc (by omega) _).grown hgrow4 (by simp; omega) (fun j hj => (hrow.lt j hj).1); clear hown4 hgrow4 hx4 hrow hown)
      refine (rtrim_any _ (k + 1) _ _ ho5.sl (by omega)).mono ?_
      rintro e w5 ⟨p, v5, rfl, o5, b5, l5, z5, t5⟩
      have hz6 := hb5.size
      go_wp2_with fail
      go_ret
      refine ⟨p, _, v5, rfl, o5.mono (by omega), hb5.trans (b5.mono (by omega)), ⟨fun j hj => ?_, t5⟩, by omega, ?_⟩
      · by_cases e : j = k
        · rw [e, upd_same]; omega
        · rw [upd_other e]; exact r2 j (by omega)
      · rw [← num_tail l5 z5, num_succ, upd_same, num_congr (g := S) (fun j hj => upd_other (by omega))]
        exact unhide HR3

theorem half_lo (x : Nat) (h : x < 4294967296) : IntKind.i64.wrap ((x : Int).tmod 65536) = ((x % 65536 : Nat) : Int) := by
  rw [Int.tmod_eq_emod_of_nonneg (by omega)]
  simp only [IntKind.wrap, IntKind.bits, IntKind.signed]
  simp
  omega

theorem half_hi (x : Nat) (h : x < 4294967296) : IntKind.i64.wrap (IntKind.u32.wrap ((x : Int) / 65536)) = ((x / 65536 : Nat) : Int) := by
  simp only [IntKind.wrap, IntKind.bits, IntKind.signed]
  simp
  omega

set_option maxRecDepth 4000 in
set_option maxHeartbeats 2000000 in
theorem half_any (v : Value) (n : Nat) (f : Nat → Nat) (w : World) (hv : Sl .u32 w v n f) (hf : ∀ i, i < n → f i < 4294967296) (hn : n ≤ 1000000000000) :
    Calls Try.prog 85 #[v] w fun e w' => ∃ m h v', e = .returned v' ∧ Own .i64 3 w' w.heap.size v' m h ∧ Below w.heap.size w w' ∧ Can 65536 h m ∧ m ≤ 2 * n ∧ num 65536 h m = num 4294967296 f n := by
  obtain ⟨i, hi, hz0, hz1, hz2⟩ := info_parts infoI
  obtain ⟨ao, cap, rfl, h1, h2, h0, h3⟩ := hv
  clear h0
  go_enter Try.func85, Try.ntmps85
  go_wp2_with fail
  go_loopw [3, 4] (fun u3 t4 wr => ∃ k : Nat, k ≤ n ∧ t4 = .int .i64 k ∧ Own .i64 3 wr w.heap.size u3 (2 * k) (hv f) ∧ Below w.heap.size w wr) (fun _ t4 _ => n - (intOf t4).toNat)
  case atStart => exact ⟨0, Nat.zero_le _, rfl, .inl ⟨rfl, rfl⟩, Below.refl _ _⟩
  case round =>
    obtain ⟨k, hk, rfl, hown, hbel⟩ := hrel
    have hrow := hown.row
    have hsz := hbel.size
    by_cases hlt : k < n
    · rcases h3 with h3 | ⟨b, off, rfl, hc⟩
      · omega
      have hx := (hbel.cell (p := ⟨b, off + k, none⟩) (Rd.lt hc (by omega))).trans (hc k hlt)
      have hbw : b < w.heap.size := Rd.lt hc (by omega)
      have hxl := hf k hlt
      have HL := hide (hv_lo f k)
      have HH := hide (hv_hi f k)
      have hk0 : (0 : Int) ≤ (k : Int) := by omega
      have hkn : (k : Int) < (n : Int) := by omega
      clear hc hf
      generalize f k = x at *
      go_wp2_with fail
      go_region_held3 (fun w' => w'.cell? ⟨b, off + k, none⟩ = some (.int .u32 x)) (first | go_keep | exact hgrow4.cell (((((Below.refl wr.heap.size wr).alloc (Nat.le_refl _) _).drew).cell (p := ⟨b, off + k, none⟩) (show b < wr.heap.size by omega)).trans hx) (fun e => by have := (hrow.lt b e.symm).1; omega))
        ((refine step_append_lies _ (by rfl) _ _ 124 (by rfl) w.heap.size 3 i (.int .i64 0) 1 8 Try.underlying124 hi hz0 hz1 hz2 rfl (by decide) _ _ _ (by rfl) ((hrow.alloc _).drew) ⟨wr.heap.size, 0, none⟩ 2 2 [.int .i64 (IntKind.i64.wrap ((x : Int).tmod 65536)), .int .i64 (IntKind.i64.wrap (IntKind.u32.wrap ((x : Int) / 65536)))] (by rfl) rfl (World.news_of_block (cs := #[.int .i64 (IntKind.i64.wrap ((x : Int).tmod 65536)), .int .i64 (IntKind.i64.wrap (IntKind.u32.wrap ((x : Int) / 65536)))]) (t := 3) (fr := (0, 0)) (heap_alloc_new wr _)) (by simp [Value.oneCell']) (by decide) (by unfold maxLen; omega) (by omega) (by simp; omega) (wr.heap.size + 1) (by simp) ?_; intro g4 cap4 w4 hown4 hgrow4 hat4 hlt4))
      rw [half_lo x hxl, half_hi x hxl] at hown4
      have ho5 := own_push2 hown4 (unhide HL) (unhide HH)
      have hb5 : Below w.heap.size w w4 := ((hbel.alloc (by omega) _).drew).grown hgrow4 (by simp; omega) (fun j hj => (hrow.lt j hj).1)
      clear hown4 hgrow4 hat4 hrow hown hbel hx
      go_wp2_with fail
      go_roundw
      case rel => exact ⟨k + 1, by omega, by go_num, ho5, hb5⟩
      case measure => simp [intOf]; omega
    · obtain rfl : k = n := by omega
      go_wp2_with fail
      refine (rtrim_any _ (2 * k) _ _ hown.sl (by omega)).mono ?_
      rintro e w5 ⟨p, v5, rfl, o5, b5, l5, z5, t5⟩
      go_wp2_with fail
      go_ret
      exact ⟨p, _, v5, rfl, o5.mono (by omega), hbel.trans (b5.mono (by omega)), ⟨fun j hj => hv_lt hf j (by omega), t5⟩, l5, by rw [← num_tail l5 z5, num_hv]⟩

/-- Pairs of what was cut off behind p places. -/
def pr (h : Nat → Nat) (p : Nat) : Nat → Nat := fun k => cut h p (2 * k) + cut h p (2 * k + 1) * 65536

theorem pr_lt {h : Nat → Nat} {p : Nat} (hd : ∀ i, i < p → h i < 65536) : ∀ k, pr h p k < 4294967296 := by
  intro k
  have c : ∀ i, cut h p i < 65536 := fun i => by by_cases e : i < p; rw [cut_in e]; exact hd i e; rw [cut_out (by omega)]; decide
  have h1 := c (2 * k)
  have h2 := c (2 * k + 1)
  unfold pr
  omega

set_option maxRecDepth 4000 in
set_option maxHeartbeats 2000000 in
theorem full_any (v : Value) (n : Nat) (h : Nat → Nat) (w : World) (hv : Sl .i64 w v n h) (hd : ∀ i, i < n → h i < 65536) (hn : n ≤ 1000000000000) :
    Calls Try.prog 86 #[v] w fun e w' => ∃ m f v', e = .returned v' ∧ Own .u32 65 w' w.heap.size v' m f ∧ Below w.heap.size w w' ∧ Can 4294967296 f m ∧ m ≤ n ∧ num 4294967296 f m = num 65536 h n := by
  obtain ⟨i, hi, hz0, hz1, hz2⟩ := info_parts infoU
  go_enter Try.func86, Try.ntmps86
  go_wp2_with fail
  refine (rtrim_any _ n h _ hv (by omega)).mono ?_
  rintro e w1 ⟨p, v1, rfl, o1, b1, l1, z1, t1⟩
  have HN := hide (num_tail (B := 65536) l1 z1)
  have hpd : ∀ i, i < p → h i < 65536 := fun i hi => hd i (by omega)
  have hprl := pr_lt hpd
  obtain ⟨ao, cap, e1, q1, q2, q0, q3⟩ := o1.sl
  subst e1
  have hz1' := b1.size
  clear hd z1 hv q0
  go_wp2_with fail
  go_loopw [3, 4] (fun u3 t4 wr => ∃ k : Nat, 2 * k ≤ p + 1 ∧ t4 = .int .i64 (2 * k : Nat) ∧ Own .u32 65 wr w1.heap.size u3 k (pr h p) ∧ Below w1.heap.size w1 wr) (fun _ t4 _ => p + 1 - (intOf t4).toNat)
  case atStart => exact ⟨0, by omega, rfl, .inl ⟨rfl, rfl⟩, Below.refl _ _⟩
  case round =>
    obtain ⟨k, hk, rfl, hown, hbel⟩ := hrel
    have hrow := hown.row
    have hsz := hbel.size
    by_cases hlt : 2 * k < p
    · rcases q3 with q3 | ⟨b, off, rfl, hc⟩
      · omega
      have hx := (hbel.cell (p := ⟨b, off + 2 * k, none⟩) (Rd.lt hc (by omega))).trans (hc (2 * k) hlt)
      have hxl := hpd (2 * k) hlt
      by_cases hlt2 : 2 * k + 1 < p
      · have hy := (hbel.cell (p := ⟨b, off + (2 * k + 1), none⟩) (Rd.lt hc (by omega))).trans (hc (2 * k + 1) hlt2)
        have hyl := hpd (2 * k + 1) hlt2
        have HP := hide (show pr h p k = h (2 * k) + h (2 * k + 1) * 65536 by unfold pr; rw [cut_in hlt, cut_in hlt2])
        have HPUSH := hide (fun (v4 : Value) (w4 : World) (x : Nat) (hx : x = pr h p k) (H : w4.ownsRow w1.heap.size 65 1 v4 (k + 1) (cellsOf .u32 (pr h p) k ++ [Value.int .u32 (x : Int)])) => (own_push H).congr (f' := pr h p) (fun j hj => by by_cases e : j = k; rw [e, upd_same, hx]; rw [upd_other e]))
        clear hc hpd hprl
        generalize h (2 * k) = x at *
        generalize h (2 * k + 1) = y at *
        go_wp2_with (at_builtin; refine wpList_append_own _ rfl _ _ 60 rfl w1.heap.size 65 i (.int .u32 0) 1 4 Try.underlying60 hi hz0 hz1 hz2 rfl (by decide) _ _ _ rfl (hrow.alloc _) ⟨wr.heap.size, 0, none⟩ 1 1 [.int .u32 ((x : Int) + (y : Int) * 65536)] rfl rfl (cells_one _ _ _) (fun u hu => by simp at hu; subst hu; rfl) (by unfold maxLen; omega) (by omega) (by simp; omega) ?_; intro v4 w4 hown4 hgrow4 hx4)
        rw [show ((x : Int) + (y : Int) * 65536) = ((x + y * 65536 : Nat) : Int) from by simp] at hown4
        have ho5 := unhide HPUSH _ _ _ (unhide HP).symm hown4
        have hb5 := (hbel.alloc (by omega) _).grown hgrow4 (by simp; omega) (fun j hj => (hrow.lt j hj).1)
        clear hown4 hgrow4 hx4 hrow hown hbel hx hy
        go_wp2_with fail
        go_roundw
        case rel => exact ⟨k + 1, by omega, by go_num, ho5, hb5⟩
        case measure => simp [intOf]; omega
      · have HP := hide (show pr h p k = h (2 * k) by unfold pr; rw [cut_in hlt, cut_out (by omega)]; omega)
        have HPUSH := hide (fun (v4 : Value) (w4 : World) (x : Nat) (hx : x = pr h p k) (H : w4.ownsRow w1.heap.size 65 1 v4 (k + 1) (cellsOf .u32 (pr h p) k ++ [Value.int .u32 (x : Int)])) => (own_push H).congr (f' := pr h p) (fun j hj => by by_cases e : j = k; rw [e, upd_same, hx]; rw [upd_other e]))
        clear hc hpd hprl
        generalize h (2 * k) = x at *
        go_wp2_with (at_builtin; refine wpList_append_own _ rfl _ _ 60 rfl w1.heap.size 65 i (.int .u32 0) 1 4 Try.underlying60 hi hz0 hz1 hz2 rfl (by decide) _ _ _ rfl (hrow.alloc _) ⟨wr.heap.size, 0, none⟩ 1 1 [.int .u32 (x : Int)] rfl rfl (cells_one _ _ _) (fun u hu => by simp at hu; subst hu; rfl) (by unfold maxLen; omega) (by omega) (by simp; omega) ?_; intro v4 w4 hown4 hgrow4 hx4)
        have ho5 := unhide HPUSH _ _ _ (unhide HP).symm hown4
        have hb5 := (hbel.alloc (by omega) _).grown hgrow4 (by simp; omega) (fun j hj => (hrow.lt j hj).1)
        clear hown4 hgrow4 hx4 hrow hown hbel hx
        go_wp2_with fail
        go_roundw
        case rel => exact ⟨k + 1, by omega, by go_num, ho5, hb5⟩
        case measure => simp [intOf]; omega
    · go_wp2_with fail
      go_ret
      refine ⟨k, _, _, rfl, hown.mono (by omega), b1.trans (hbel.mono (by omega)), ⟨fun j _ => hprl j, ?_⟩, by omega, ?_⟩
      · by_cases hk0 : k = 0
        · exact .inl hk0
        · right
          have hne : h (p - 1) ≠ 0 := by rcases t1 with h | h; omega; exact h
          unfold pr
          by_cases e : 2 * (k - 1) = p - 1
          · rw [e, cut_in (by omega)]; omega
          · rw [show 2 * (k - 1) + 1 = p - 1 from by omega, cut_in (i := p - 1) (by omega)]; omega
      · rw [unhide HN, ← num_pairs (cut h p) (pr h p) k (fun j _ => rfl), num_cut (by omega)]

set_option maxRecDepth 4000 in
set_option maxHeartbeats 2000000 in
theorem rAdd_any (k cap M : Nat) (mo : Option Addr) (vs : Nat → Value) (ns : Nat → Nat) (fs : Nat → Nat → Nat) (w : World)
    (hm : Rds w mo k vs) (hs : ∀ i, i < k → Sl .u32 w (vs i) (ns i) (fs i)) (hfs : ∀ j, j < k → ∀ i, i < ns j → fs j i < 4294967296)
    (hns : ∀ j, j < k → ns j ≤ M) (hM : 2 * M + k ≤ 10000000000) :
    Calls Try.prog 81 #[.slice mo k cap] w fun e w' => ∃ n' f' v', e = .returned v' ∧ Own .u32 65 w' w.heap.size v' n' f' ∧ Below w.heap.size w w' ∧ Can 4294967296 f' n' ∧ num 4294967296 f' n' = total ns fs k := by
  go_enter Try.func81, Try.ntmps81
  go_wp2_with fail
  go_loopw [3, 4] (fun u3 t4 wr => ∃ (j n : Nat) (f : Nat → Nat), j ≤ k ∧ t4 = .int .i64 j ∧ Sl .i64 wr u3 n f ∧ Below w.heap.size w wr ∧ (∀ i, i < n → f i < 65536) ∧ n ≤ 2 * M + j ∧ num 65536 f n = total ns fs j) (fun _ t4 _ => k - (intOf t4).toNat)
  case atStart => exact ⟨0, 0, fun _ => 0, Nat.zero_le _, rfl, ⟨none, 0, rfl, Nat.le_refl _, by omega, fun _ => rfl, .inl rfl⟩, Below.refl _ _, fun i hi => by omega, by omega, rfl⟩
  case round =>
    obtain ⟨j, n, f, hj, rfl, hsl, hbel, hd, hn, hnum⟩ := hrel
    have HN := hide hnum
    clear hnum
    have hsz := hbel.size
    by_cases hlt : j < k
    · rcases hm with hm | ⟨b, off, rfl, hc⟩
      · omega
      have hx := (hbel.cell (p := ⟨b, off + j, none⟩) (World.block_lt_of_cell? w _ (hc j hlt))).trans (hc j hlt)
      have sj := (hs j hlt).below hbel (Nat.le_refl _)
      have dj := hfs j hlt
      have lj := hns j hlt
      obtain ⟨aj, cj, ej, -⟩ := id sj
      rw [ej] at sj hx
      clear hc hs hfs hns ej
      go_wp2_with fail
      refine (half_any _ (ns j) (fs j) _ sj dj (by omega)).mono ?_
      rintro e w1 ⟨n1, f1, a1, rfl, o1, u1, c1, l1, p1⟩
      replace u1 : Up wr w1 := u1
      have P1 := hide p1
      clear p1 hx sj
      go_wp2_with fail
      refine (radd_any _ _ n n1 f f1 _ (hsl.up u1) o1.sl hd c1.1 (by omega) (by omega)).mono ?_
      rintro e w2 ⟨n2, f2, a2, rfl, o2, u2, c2, l2, p2⟩
      replace u2 : Up w1 w2 := u2
      have P2 := hide p2
      have s2 := o2.sl
      have B2 : Below w.heap.size w w2 := hbel.trans (Below.mono (u1.tr u2) hsz)
      clear p2 o1 o2
      go_wp2_with fail
      go_roundw
      case rel => exact ⟨j + 1, n2, f2, by omega, by go_num, s2, B2, c2.1, by omega, by rw [unhide P2, unhide HN, unhide P1]; rfl⟩
      case measure => simp [intOf]; omega
    · obtain rfl : j = k := by omega
      go_wp2_with fail
      refine (full_any _ n f _ hsl hd (by omega)).mono ?_
      rintro e w4 ⟨n4, f4, a4, rfl, o4, u4, c4, l4, p4⟩
      have P4 := hide p4
      clear p4
      go_wp2_with fail
      go_ret
      exact ⟨n4, f4, a4, rfl, o4.mono hsz, hbel.trans (Below.mono u4 hsz), c4, by rw [unhide P4]; exact unhide HN⟩

theorem rds_oneE (w : World) (x : Value) (E : TypeId) (g : Nat) (hg : g = w.heap.size) : Rds (w.alloc (.cells #[x] E)) (some ⟨g, 0, none⟩) 1 (fun _ => x) := by
  subst hg
  refine .inr ⟨w.heap.size, 0, rfl, fun i hi => ?_⟩
  obtain rfl : i = 0 := (by omega)
  rw [cell_of_row _ _ _ _ _ _ (heap_alloc_new w _)]
  rfl

/-- A canonical row is not longer than another that says the same. -/
theorem can_le {B : Nat} (hB : 0 < B) {f g : Nat → Nat} {n m : Nat} (hf : Can B f n) (hg : ∀ i, i < m → g i < B) (h : num B f n = num B g m) : n ≤ m := by
  apply Nat.le_of_not_lt
  intro hlt
  obtain ⟨k, rfl⟩ : ∃ k, n = k + 1 := ⟨n - 1, by omega⟩
  have h1 := num_lt hg
  have h2 : B ^ m ≤ B ^ k := Nat.pow_le_pow_right hB (by omega)
  have h3 : f k ≠ 0 := by
    rcases hf.2 with h0 | h0
    · omega
    · simpa using h0
  have h4 : num B f (k + 1) = num B f k + f k * B ^ k := rfl
  have h5 : 1 * B ^ k ≤ f k * B ^ k := Nat.mul_le_mul_right _ (by omega)
  omega

set_option maxRecDepth 4000 in
set_option maxHeartbeats 1000000 in
theorem r2of_any (b : Bool) (v : Value) (n : Nat) (f : Nat → Nat) (w : World) (hs : Sl .u32 w v n f) (hd : ∀ i, i < n → f i < 4294967296) (hn : 2 * n + 1 ≤ 10000000000) :
    Calls Try.prog 72 #[.bool b, v] w fun e w' => ∃ a b' m f', e = .returned a ∧ OwnN w' w.heap.size a b' m f' ∧ Up w w' ∧ CanZ b' f' m ∧ m ≤ n ∧ sgn b' (num 4294967296 f' m) = sgn b (num 4294967296 f n) := by
  obtain ⟨ao, cap, rfl, -⟩ := id hs
  have fin : ∀ (m : Nat) (f' : Nat → Nat), Can 4294967296 f' m → num 4294967296 f' m = total (fun _ => n) (fun _ => f) 1 → m ≤ n ∧ num 4294967296 f' m = num 4294967296 f n := by
    intro m f' c s
    have s' : num 4294967296 f' m = num 4294967296 f n := by
      rw [s]
      simp [total]
    exact ⟨can_le (by decide) c hd s', s'⟩
  have FIN := hide fin
  clear fin
  go_enter Try.func72, Try.ntmps72
  go_wp2_with fail
  refine (rAdd_any 1 1 n _ (fun _ => .slice ao n cap) (fun _ => n) (fun _ => f) _ (rds_oneE _ _ _ _ (by simp)) (fun i _ => (hs.up (up_alloc _ _)).up (up_alloc _ _)) (fun j _ => hd) (fun j _ => Nat.le_refl _) (by omega)).mono ?_
  rintro e w2 ⟨m, f', v', rfl, o, u, c, s⟩
  obtain ⟨l, s'⟩ := unhide FIN m f' c s
  have HS := hide s'
  clear s s' FIN
  obtain ⟨ao2, cap2, rfl, -⟩ := id o.sl
  obtain ⟨d0, d1, g0, g1, lt, e0, e1⟩ := res2 w.heap.size rfl ((up_alloc _ _).tr u)
  have hz : CanZ (b && !decide (m = 0)) f' m := CanZ.of c
  by_cases hm : m = 0
  · subst hm
    cases b <;>
    · go_wp2_with fail
      refine bodyPost_ret (by simp [results, Try.results72, go_sem, e0, e1]; rfl) rfl ?_
      refine ⟨_, _, 0, _, rfl, ⟨_, rfl, (o.set2 (by simp; omega)).mono (by simp; omega)⟩, Up.set2 ((up_alloc w _).tr ((up_alloc _ _).tr u)) (Nat.le_refl _), by simpa using hz, l, ?_⟩
      rw [← unhide HS]
      try simp [sgn, num]
  · have hm1 : 0 < m := by omega
    cases b <;>
    · go_wp2_with fail
      refine bodyPost_ret (by simp [results, Try.results72, go_sem, e0, e1]; rfl) rfl ?_
      refine ⟨_, _, m, _, rfl, ⟨_, rfl, (o.set2 (by simp; omega)).mono (by simp; omega)⟩, Up.set2 ((up_alloc w _).tr ((up_alloc _ _).tr u)) (Nat.le_refl _), by simpa [hm] using hz, l, ?_⟩
      rw [← unhide HS]

set_option maxRecDepth 4000 in
set_option maxHeartbeats 1000000 in
theorem r2canon_any (a : Value) (b : Bool) (n : Nat) (f : Nat → Nat) (w : World) (hs : Nm w a b n f) (hd : ∀ i, i < n → f i < 4294967296) (hn : 2 * n + 1 ≤ 10000000000) :
    Calls Try.prog 59 #[a] w fun e w' => ∃ a b' m f', e = .returned a ∧ OwnN w' w.heap.size a b' m f' ∧ Up w w' ∧ CanZ b' f' m ∧ m ≤ n ∧ sgn b' (num 4294967296 f' m) = sgn b (num 4294967296 f n) := by
  obtain ⟨v, rfl, hs⟩ := hs
  obtain ⟨ao, cap, rfl, -⟩ := id hs
  go_enter Try.func59, Try.ntmps59
  go_wp2_with fail
  refine (r2of_any b _ n f _ ((hs.up (up_alloc _ _)).up (up_alloc _ _)) hd hn).mono ?_
  rintro e w2 ⟨a2, b2, m, f', rfl, ⟨v2, rfl, o⟩, u, c, l, s⟩
  have HS := hide s
  clear s
  obtain ⟨ao2, cap2, rfl, -⟩ := id o.sl
  obtain ⟨d0, d1, g0, g1, lt, e0, e1⟩ := res2 (w.heap.size + 1) (by simp) u
  go_wp2_with fail
  refine bodyPost_ret (by simp [results, Try.results59, go_sem, e0, e1]; rfl) rfl ?_
  exact ⟨_, b2, m, _, rfl, ⟨_, rfl, (o.set2 (by simp)).mono (by simp; omega)⟩, Up.set2 ((up_alloc w _).tr ((up_alloc _ _).tr u)) (by omega), c, l, unhide HS⟩

end Go.Proofs.Ytilcigjhogcjkaa
