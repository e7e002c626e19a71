/-
  What is proved here: nat.groupsOf answers a number's digits to the base 10^9, the highest not 0; nat.appendGroup appends nine decimal digits. nat.appendGroup appends the nine decimal digits of a group to a row of bytes that is its own. strconv.AppendUint appends the one decimal digit of 4. nat.Text answers the shortest decimal digits of a number, as far as strconv.AppendUint answers those of the highest group.
-/
import Derived.Test.YtjbocfhmfidjjaaDoorDivLimb
import Derived.Test.YtjbocfhmfidjjaaDoorParse
import Derived.Lib.AppendStr
import Derived.Laws.IdiomStrings
namespace Go.Proofs.YtjbocfhmfidjjaaDoor
open Go Go.RowKit

def lenOf : Value → Nat | .slice _ n _ => n | _ => 0

/-- Behind k groups: V is the k groups and what is left, X, behind them. -/
def GroupRel (V k : Nat) (G : Nat → Nat) (X : Nat) : Prop :=
  (∀ i, i < k → G i < 1000000000) ∧ V = num 1000000000 G k + X * 1000000000 ^ k ∧ (X = 0 → k = 0 ∨ G (k - 1) ≠ 0)

theorem GroupRel.step {V k X : Nat} {G : Nat → Nat} (h : GroupRel V k G X) (hX : 0 < X) : GroupRel V (k + 1) (upd G k (X % 1000000000)) (X / 1000000000) := by
  obtain ⟨h1, h2, h3⟩ := h
  refine ⟨fun i hi => ?_, ?_, fun hz => .inr ?_⟩
  · by_cases e : i = k
    · rw [e, upd_same]; exact Nat.mod_lt _ (by decide)
    · rw [upd_other e]; exact h1 i (by omega)
  · rw [num_succ, upd_same, num_congr (g := G) (fun i hi => upd_other (by omega)), h2, Nat.pow_succ]
    generalize 1000000000 ^ k = P
    have : X % 1000000000 * P + X / 1000000000 * (P * 1000000000) = X * P := by
      rw [Nat.mul_comm P, ← Nat.mul_assoc, ← Nat.add_mul, Nat.mul_comm _ 1000000000, Nat.mod_add_div]
    omega
  · rw [Nat.add_sub_cancel, upd_same]
    omega

/-- So many limbs make at most twice as many groups. -/
theorem GroupRel.few {V k X n : Nat} {G : Nat → Nat} (h : GroupRel V k G X) (hX : 0 < X) (hV : V < 4294967296 ^ n) : k < 2 * n := by
  have h2 := h.2.1
  have h3 : 1 * 1000000000 ^ k ≤ X * 1000000000 ^ k := Nat.mul_le_mul_right _ hX
  have h4 : 4294967296 ^ n ≤ 1000000000 ^ (2 * n) := by
    rw [Nat.pow_mul]
    exact Nat.pow_le_pow_left (by decide) n
  apply Nat.lt_of_not_le
  intro hle
  have h5 : 1000000000 ^ (2 * n) ≤ 1000000000 ^ k := Nat.pow_le_pow_right (by decide) hle
  omega

set_option maxRecDepth 4000 in
set_option maxHeartbeats 2000000 in
theorem groupsOf_any (v : Value) (n : Nat) (f : Nat → Nat) (w : World) (hv : Sl .u32 w v n f) (hf : ∀ i, i < n → f i < 4294967296) (hn : 8 * (n + 1) ≤ 140737488355328) :
    Calls Tryd.prog 112 #[v] w fun e w' => ∃ v' k G, e = .returned v' ∧ Own .u32 64 w' w.heap.size v' k G ∧ Below w.heap.size w w' ∧ Can 1000000000 G k ∧ k ≤ 2 * n ∧ num 1000000000 G k = num 4294967296 f n := by
  obtain ⟨i, hi, hz0, hz1, hz2⟩ := info_parts infoU
  obtain ⟨ao, cap, rfl, h1, h2, h0, h3⟩ := hv
  have hV := num_lt hf
  go_enter Tryd.func112, Tryd.ntmps112
  go_wp2_with fail
  refine (trim_any _ _ _ f _ h3 h1 h2).mono ?_
  rintro e w1 ⟨rfl, p, hp, rfl, zp, tp⟩
  go_wp2_with fail
  refine (clone_any _ _ _ f _ (h3.mono hp) (by omega)).mono ?_
  rintro e w2 ⟨rfl, hr2, hb2⟩
  have HE := hide (num_tail (B := 4294967296) hp zp)
  have hz2' := hb2.size
  have hlt2 := hr2.lt
  go_wp2_with fail
  go_loopw [3, 4] (fun t3 t4 wr => ∃ (m k : Nat) (f' G : Nat → Nat), t3 = .slice (some ⟨w1.heap.size, 0, none⟩) m p ∧ m ≤ p ∧ RowAt .u32 64 wr w1.heap.size p p f' ∧ Can 4294967296 f' m ∧ Own .u32 64 wr (w1.heap.size + 1) t4 k G ∧ Below w1.heap.size w1 wr ∧ w1.heap.size + 1 ≤ wr.heap.size ∧ GroupRel (num 4294967296 f n) k G (num 4294967296 f' m) ∧ k ≤ 2 * n) (fun _ t4 _ => 2 * n - lenOf t4)
  case atStart => exact ⟨p, 0, f, fun _ => 0, rfl, Nat.le_refl _, hr2, ⟨fun i hi => hf i (by omega), tp⟩, .inl ⟨rfl, rfl⟩, hb2, by omega, ⟨fun i hi => by omega, by rw [unhide HE]; simp [num], fun _ => .inl rfl⟩, by omega⟩
  case round =>
    obtain ⟨m, k, f', G, rfl, hm, hr, hc, hown, hbel, hsz, hg, hk⟩ := hrel
    clear hr2 hb2 hlt2 hz2'
    by_cases hm0 : m = 0
    · subst hm0
      go_wp2_with fail
      go_ret
      have hx : num 4294967296 f' 0 = 0 := rfl
      rw [hx] at hg
      exact ⟨_, k, G, rfl, hown.mono (by omega), hbel, ⟨hg.1, hg.2.2 rfl⟩, hk, by rw [hg.2.1]; omega⟩
    · have hX : 0 < num 4294967296 f' m := by
        have := num_ge (B := 4294967296) (f := f') (n := m) (by omega) (by rcases hc.2 with h | h; omega; exact h)
        have : 0 < 4294967296 ^ (m - 1) := Nat.pos_of_ne_zero (by simp)
        omega
      have hfew := hg.few hX hV
      have HG := hide (hg.step hX)
      clear hg
      go_wp2_with fail
      refine (divideByLimb_any _ p p m _ 1000000000 f' _ hr hm (by omega) (by decide) (by decide) hc.1).mono ?_
      rintro e w3 ⟨f3, rfl, hr3, ho3, hd3, hq3⟩
      have hown3 : Own .u32 64 w3 (w1.heap.size + 1) u4 k G := by
        rcases hown with ⟨h, h'⟩ | ⟨g, cp, h, hb, hcp, hrr⟩
        · exact .inl ⟨h, h'⟩
        · exact .inr ⟨g, cp, h, hb, hcp, hrr.block (ho3.block g (by omega))⟩
      have hb3 := Only.below hbel ho3 (Nat.le_refl _)
      have hsz3 : w1.heap.size + 1 ≤ w3.heap.size := by rw [ho3.size]; exact hsz
      have hrow3 := hown3.row
      have HQ := hide hq3
      clear hq3 hown ho3 hr hbel hsz
      go_wp2_with (at_builtin; refine wpList_append_own _ rfl _ _ 24 rfl (w1.heap.size + 1) 64 i (.int .u32 0) 1 4 Tryd.underlying24 hi hz0 hz1 hz2 rfl (by decide) _ _ _ rfl (hrow3.alloc _) ⟨w3.heap.size, 0, none⟩ 1 1 [.int .u32 (num 4294967296 f' m % 1000000000 : Nat)] rfl rfl (cells_one _ _ _) (fun u hu => by simp at hu; subst hu; rfl) (by unfold maxLen; omega) (by omega) (by simp; omega) ?_; intro v4 w4 hown4 hgrow4 hx4)
      have hblk : w4.heap[w1.heap.size]? = w3.heap[w1.heap.size]? :=
        (hgrow4.block _ (by simp; omega) (fun e => by have := (hrow3.lt _ e.symm).1; omega)).trans (Below.heap_alloc w3 _ _ (by omega))
      have hr4 := hr3.block hblk
      have hb4 : Below w1.heap.size w1 w4 := (hb3.alloc (by omega) _).grown hgrow4 (by simp; omega) (fun j hj => by have := (hrow3.lt j hj).1; omega)
      have hsz4 : w1.heap.size + 1 ≤ w4.heap.size := by have := hgrow4.size; simp at this; omega
      have hown5 : Own .u32 64 w4 (w1.heap.size + 1) v4 (k + 1) (upd G k (num 4294967296 f' m % 1000000000)) := Own.of_row hown4 (fun j hj => by
        by_cases e : j = k
        · subst e
          rw [upd_same, List.getElem?_append_right (by rw [cellsOf_length]; exact Nat.le_refl _), cellsOf_length]
          simp
        · rw [upd_other e, List.getElem?_append_left (by rw [cellsOf_length]; omega), cellsOf_get _ _ _ _ (by omega)])
      have hlen : lenOf v4 = k + 1 := by
        rcases hown5 with ⟨h, h'⟩ | ⟨g, cp, h, _⟩
        · omega
        · rw [h]; rfl
      have hlen0 : lenOf u4 = k := by
        rcases hown3 with ⟨h, h'⟩ | ⟨g, cp, h, _⟩
        · rw [h, h']; rfl
        · rw [h]; rfl
      have HL := hide hlen
      have HL0 := hide hlen0
      clear hblk hr3 hb3 hrow3 hown3 hown4 hgrow4 hlen hlen0
      refine (trim_any _ m _ f3 _ (hr4.mono hm).rd hm (by omega)).mono ?_
      rintro e w5 ⟨rfl, q, hq, rfl, zq, tq⟩
      have hnq := num_tail (B := 4294967296) hq zq
      have HN := hide hnq
      clear hnq
      go_wp2_with fail
      go_roundw
      case rel => exact ⟨q, k + 1, f3, _, rfl, by omega, hr4, ⟨fun i hi => hd3 i (by omega), tq⟩, hown5, hb4, hsz4, by rw [← unhide HN, unhide HQ]; exact unhide HG, by omega⟩
      case measure => rw [unhide HL, unhide HL0]; omega

theorem infoB : (Tryd.prog.info? 5).map (fun i => (i.zero, i.size, i.bytes)) = some (some (.int .u8 0), 1, 1) := by kernel_rfl

/-- The i-th of nine decimal digits. -/
def dig9 (gr i : Nat) : Nat := gr / (100000000 / 10 ^ i) % 10
theorem dig9_le (gr i : Nat) : dig9 gr i ≤ 9 := by unfold dig9; omega
theorem dec_dig9 (gr : Nat) (h : gr < 1000000000) : dec (dig9 gr) 9 = gr := by
  simp only [dec, dig9]
  simp only [Nat.reducePow, Nat.reduceDiv]
  omega
theorem unit_step (i : Nat) : 100000000 / 10 ^ i / 10 = 100000000 / 10 ^ (i + 1) := by
  rw [Nat.div_div_eq_div_mul, Nat.pow_succ]
theorem unit_pos (i : Nat) (h : i < 9) : 1 ≤ 100000000 / 10 ^ i ∧ 100000000 / 10 ^ i ≤ 100000000 := by
  refine ⟨?_, Nat.div_le_self _ _⟩
  rw [Nat.le_div_iff_mul_le (Nat.pos_of_ne_zero (by simp)), Nat.one_mul]
  exact Nat.le_trans (Nat.pow_le_pow_right (by decide) (show i ≤ 8 by omega)) (by decide)

/-- t behind, s ahead from place n on. -/
def glue (t s : Nat → Nat) (n : Nat) : Nat → Nat := fun i => if i < n then t i else s (i - n)
theorem glue_lo {t s : Nat → Nat} {n i : Nat} (h : i < n) : glue t s n i = t i := by simp [glue, h]
theorem glue_hi {t s : Nat → Nat} {n i : Nat} : glue t s n (n + i) = s i := by simp [glue]; intro h; omega

set_option maxRecDepth 4000 in
set_option maxHeartbeats 1000000 in
theorem appendGroup_any (base : Nat) (v : Value) (n gr : Nat) (t : Nat → Nat) (w : World) (hv : Own .u8 5 w base v n t) (hgr : gr < 4294967296) (hn : n + 9 ≤ 140737488355328) (hbase : base ≤ w.heap.size) :
    Calls Tryd.prog 114 #[v, .int .u32 gr] w fun e w' => ∃ v', e = .returned v' ∧ Own .u8 5 w' base v' (n + 9) (glue t (fun i => 48 + dig9 gr i) n) ∧ Below base w w' := by
  obtain ⟨i, hi, hz0, hz1, hz2⟩ := info_parts infoB
  go_enter Tryd.func114, Tryd.ntmps114
  go_wp2_with fail
  go_loopw [0, 5] (fun u0 t5 wr => ∃ j : Nat, j ≤ 9 ∧ t5 = .int .u32 (100000000 / 10 ^ j : Nat) ∧ Own .u8 5 wr base u0 (n + j) (glue t (fun i => 48 + dig9 gr i) n) ∧ Below base w wr ∧ base ≤ wr.heap.size) (fun u0 _ _ => n + 9 - lenOf u0)
  case atStart => exact ⟨0, by omega, rfl, by
    rcases hv with ⟨h, h'⟩ | ⟨g, cap, h, h1, h2, h3⟩
    · exact .inl ⟨h, h'⟩
    · exact .inr ⟨g, cap, h, h1, h2, h3.congr (fun i hi => (glue_lo hi).symm)⟩, Below.refl _ _, hbase⟩
  case round =>
    obtain ⟨j, hj, rfl, hown, hbel, hsz⟩ := hrel
    by_cases hj9 : j < 9
    · obtain ⟨hu1, hu2⟩ := unit_pos j hj9
      have hrow := hown.row
      have HU := hide (unit_step j)
      have HQ := hide (show dig9 gr j = gr / (100000000 / 10 ^ j) % 10 from rfl)
      generalize 100000000 / 10 ^ j = un at *
      have hq : (gr : Int) / (un : Int) = ((gr / un : Nat) : Int) := by simp
      have hql : gr / un ≤ gr := Nat.div_le_self _ _
      generalize gr / un = q at *
      go_wp2_with (at_builtin; refine wpList_append_own _ rfl _ _ 104 rfl base 5 i (.int .u8 0) 1 1 Tryd.underlying104 hi hz0 hz1 hz2 rfl (by decide) _ _ _ rfl (hrow.alloc _) ⟨wr.heap.size, 0, none⟩ 1 1 [.int .u8 (48 + (q : Int) % 10)] rfl rfl (cells_one _ _ _) (fun u hu => by simp at hu; subst hu; rfl) (by unfold maxLen; omega) (by omega) (by simp; omega) ?_; intro v4 w4 hown4 hgrow4 hx4)
      have hown5 : Own .u8 5 w4 base v4 (n + (j + 1)) (glue t (fun i => 48 + dig9 gr i) n) := Own.of_row hown4 (fun k hk => by
        by_cases e : k = n + j
        · subst e
          rw [glue_hi, unhide HQ, List.getElem?_append_right (by rw [cellsOf_length]; exact Nat.le_refl _), cellsOf_length]
          simp
        · rw [List.getElem?_append_left (by rw [cellsOf_length]; omega), cellsOf_get _ _ _ _ (by omega)])
      have hb4 : Below base w w4 := (hbel.alloc hsz _).grown hgrow4 (by simp; omega) (fun k hk => (hrow.lt k hk).1)
      have hsz4 : base ≤ w4.heap.size := by have := hgrow4.size; simp at this; omega
      have hlen : lenOf v4 = n + (j + 1) := by
        rcases hown5 with ⟨h, h'⟩ | ⟨g, cp, h, _⟩
        · omega
        · rw [h]; rfl
      have hlen0 : lenOf u0 = n + j := by
        rcases hown with ⟨h, h'⟩ | ⟨g, cp, h, _⟩
        · rw [h, h']; rfl
        · rw [h]; rfl
      have HL := hide hlen
      have HL0 := hide hlen0
      clear hrow hown hown4 hgrow4 hbel hlen hlen0 hx4
      go_wp2_with fail
      go_roundw
      case rel => exact ⟨j + 1, by omega, by rw [← unhide HU]; go_num, hown5, hb4, hsz4⟩
      case measure => rw [unhide HL, unhide HL0]; omega
    · obtain rfl : j = 9 := by omega
      go_wp2_with fail
      go_ret
      exact ⟨_, rfl, hown, hbel⟩

/-- What strconv.AppendUint is asked for: the decimal digits of u, appended to a row of bytes of one's own. -/
def AppOk (u : Nat) : Prop := ∀ (base : Nat) (v : Value) (n : Nat) (t : Nat → Nat) (w : World), Own .u8 5 w base v n t → n + 20 ≤ 140737488355328 → base ≤ w.heap.size →
    Calls Tryd.prog 113 #[v, .int .u64 u, .int .i64 10] w fun e w' => ∃ v' L d, e = .returned v' ∧ Own .u8 5 w' base v' (n + L) (glue t (fun i => 48 + d i) n) ∧ Below base w w' ∧ (∀ i, i < L → d i ≤ 9) ∧ 1 ≤ L ∧ L ≤ 20 ∧ d 0 ≠ 0 ∧ dec d L = u

set_option maxRecDepth 4000 in
set_option maxHeartbeats 400000 in
theorem small_four (w : World) : Calls Tryd.prog 129 #[.int .i64 4] w fun e w' => e = .returned (.string ⟨#[52]⟩) ∧ w' = w := by
  go_enter Tryd.func129, Tryd.ntmps129
  go_wp2
  go_ret
  refine ⟨?_, rfl⟩
  first | rfl | decide | kernel_rfl

theorem size_52 : (⟨#[52]⟩ : ByteArray).size = 1 := rfl
theorem cells_52 : Lib.strCells ⟨#[52]⟩ = [.int .u8 52] := rfl

set_option maxRecDepth 4000 in
set_option maxHeartbeats 1000000 in
theorem app_four_in (base : Nat) (v : Value) (n : Nat) (t : Nat → Nat) (w : World) (hv : Own .u8 5 w base v n t) (hn : n + 20 ≤ 140737488355328) (hbase : base ≤ w.heap.size) :
    Calls Tryd.prog 126 #[v, .int .u64 4, .int .i64 10] w fun e w' => ∃ v', e = .returned v' ∧ Own .u8 5 w' base v' (n + 1) (glue t (fun _ => 52) n) ∧ Below base w w' := by
  obtain ⟨i, hi, hz0, hz1, hz2⟩ := info_parts infoB
  have hrow := hv.row
  go_enter Tryd.func126, Tryd.ntmps126
  go_wp2_with (first
    | (go_at_call 129; refine (small_four _).mono ?_; rintro e w' ⟨rfl, rfl⟩)
    | (at_builtin; refine Lib.wpList_append_own_string _ rfl _ _ 104 9 rfl base 5 i Tryd.underlying104 Tryd.underlying9 hi hz0 hz1 hz2 _ _ _ rfl hrow ⟨#[52]⟩ rfl (by rw [size_52]; unfold maxLen; omega) (by rw [size_52]; omega) hbase ?_; intro v' w1 hown hgrow hx))
  go_ret
  rw [size_52, cells_52] at hown
  refine ⟨v', rfl, Own.of_row hown (fun k hk => ?_), (Below.refl _ _).grown hgrow hbase (fun k hk => (hrow.lt k hk).1)⟩
  by_cases e : k = n
  · subst e
    have : glue t (fun _ => 52) k k = 52 := by simp [glue]
    rw [this, List.getElem?_append_right (by rw [cellsOf_length]; exact Nat.le_refl _), cellsOf_length]
    simp
  · rw [List.getElem?_append_left (by rw [cellsOf_length]; omega), cellsOf_get _ _ _ _ (by omega), glue_lo (by omega)]

theorem app_four : AppOk 4 := by
  intro base v n t w hv hn hbase
  go_enter Tryd.func113, Tryd.ntmps113
  go_wp2_with (go_at_call 126; refine (app_four_in base v n t _ hv hn hbase).mono ?_; rintro e w' ⟨v', rfl, ho, hb⟩)
  go_ret
  exact ⟨v', 1, fun _ => 4, rfl, ho, hb, fun i hi => (show 4 ≤ 9 by decide), by omega, by omega, by decide, by simp [dec]⟩

theorem Own.congr {k : IntKind} {E : TypeId} {w : World} {base : Nat} {v : Value} {n : Nat} {f f' : Nat → Nat} (h : Own k E w base v n f) (hf : ∀ i, i < n → f i = f' i) : Own k E w base v n f' := by
  rcases h with ⟨h, h'⟩ | ⟨g, cap, h, h1, h2, h3⟩
  · exact .inl ⟨h, h'⟩
  · exact .inr ⟨g, cap, h, h1, h2, h3.congr hf⟩

/-- The text of L digits. -/
def digText (d : Nat → Nat) (L : Nat) : List UInt8 := (List.range L).map fun i => UInt8.ofNat (48 + d i)
theorem digText_length (d : Nat → Nat) (L : Nat) : (digText d L).length = L := by simp [digText]
theorem digText_get (d : Nat → Nat) (L i : Nat) (h : i < (digText d L).length) (hd : d i ≤ 9) : (digText d L)[i].toNat = 48 + d i := by
  simp only [digText, List.getElem_map, List.getElem_range]
  rw [UInt8.toNat_ofNat']
  omega

/-- s says the number x in decimal digits, the shortest. -/
def Says (s : ByteArray) (x : Nat) : Prop := ∃ d : Nat → Nat, 1 ≤ s.size ∧ (∀ i (h : i < s.size), s[i].toNat = 48 + d i ∧ d i ≤ 9) ∧ dec d s.size = x ∧ (s.size = 1 ∨ d 0 ≠ 0)

theorem says_mk (d : Nat → Nat) (L x : Nat) (hd : ∀ i, i < L → d i ≤ 9) (hL : 1 ≤ L) (hx : dec d L = x) (h0 : L = 1 ∨ d 0 ≠ 0) : Says ⟨(digText d L).toArray⟩ x := by
  have hs : (⟨(digText d L).toArray⟩ : ByteArray).size = L := by simp [ByteArray.size, digText_length]
  refine ⟨d, by omega, fun i h => ?_, by rw [hs]; exact hx, by rw [hs]; exact h0⟩
  have hi : i < L := by omega
  refine ⟨?_, hd i hi⟩
  rw [← digText_get d L i (by rw [digText_length]; exact hi) (hd i hi)]
  rfl

theorem glue_digits (d e : Nat → Nat) (n : Nat) : ∀ i, glue (fun i => 48 + d i) (fun i => 48 + e i) n i = 48 + glue d e n i := by
  intro i
  unfold glue
  split <;> rfl
theorem dec_glue (d : Nat → Nat) (gr L : Nat) (h : gr < 1000000000) : dec (glue d (dig9 gr) L) (L + 9) = dec d L * 1000000000 + gr := by
  rw [dec_split, dec_congr (d := glue d (dig9 gr) L) (e := d) (k := L) (fun i hi => glue_lo hi), dec_congr (d := fun i => glue d (dig9 gr) L (L + i)) (e := dig9 gr) (k := 9) (fun i hi => glue_hi), dec_dig9 gr h]
theorem glue_le {d : Nat → Nat} {gr L : Nat} (hd : ∀ i, i < L → d i ≤ 9) : ∀ i, i < L + 9 → glue d (dig9 gr) L i ≤ 9 := by
  intro i hi
  by_cases h : i < L
  · rw [glue_lo h]; exact hd i h
  · obtain ⟨j, rfl⟩ : ∃ j, i = L + j := ⟨i - L, by omega⟩
    rw [glue_hi]; exact dig9_le gr j
theorem num_top (B : Nat) (G : Nat → Nat) (j m : Nat) (h : j < m) : num B (fun i => G (j + i)) (m - j) = G j + B * num B (fun i => G (j + 1 + i)) (m - (j + 1)) := by
  rw [show m - j = m - (j + 1) + 1 from by omega, num_head, Nat.add_zero]
  rw [num_congr (f := fun i => G (j + (1 + i))) (g := fun i => G (j + 1 + i)) (fun i _ => by rw [← Nat.add_assoc])]

/-- 'string(b)', b a row of digits of one's own. -/
theorem conv_digits (w : World) (g cap L N : Nat) (d : Nat → Nat) (hd : ∀ i, i < L → d i ≤ 9) (hr : RowAt .u8 5 w g N L (fun i => 48 + d i)) :
    (convert 104 9 (.slice (some ⟨g, 0, none⟩) L cap)).run Tryd.prog w = .ok (.string ⟨(digText d L).toArray⟩) w := by
  have := run_convert_bytes_back (P := Tryd.prog) w 104 9 5 ⟨g, 0, none⟩ cap (digText d L) Tryd.underlying104 Tryd.underlying5 Tryd.underlying9 (fun j hj => by
    have hjL : j < L := by rw [digText_length] at hj; exact hj
    rw [Addr.add_lit, Nat.zero_add, hr.cell hjL, digText_get d L j hj (hd j hjL)])
  rw [digText_length] at this
  exact this

set_option maxRecDepth 4000 in
set_option maxHeartbeats 2000000 in
theorem text_any (v : Value) (n : Nat) (f : Nat → Nat) (w : World) (hv : Sl .u32 w v n f) (hf : ∀ i, i < n → f i < 4294967296) (hn : 100 * (n + 1) ≤ 140737488355328)
    (hApp : ∀ G k, Can 1000000000 G k → num 1000000000 G k = num 4294967296 f n → k ≠ 0 → AppOk (G (k - 1))) :
    Calls Tryd.prog 97 #[v] w fun e w' => ∃ s, e = .returned (.string s) ∧ Below w.heap.size w w' ∧ s.size ≤ 18 * n + 20 ∧ Says s (num 4294967296 f n) := by
  obtain ⟨i, hi, hz0, hz1, hz2⟩ := info_parts infoB
  go_enter Tryd.func97, Tryd.ntmps97
  go_wp2_with fail
  refine (groupsOf_any _ n f _ hv hf (by omega)).mono ?_
  rintro e w1 ⟨v1, k, G, rfl, ho1, hb1, hc1, hk1, hs1⟩
  have HAPP := hide (hApp G k hc1 hs1)
  have HS1 := hide hs1
  clear hApp hs1
  rcases ho1 with ⟨rfl, rfl⟩ | ⟨g, cap, rfl, hg, hcap, hr1⟩
  · go_wp2_with fail
    go_ret
    refine ⟨⟨#[48]⟩, rfl, hb1, by show 1 ≤ _; omega, ?_⟩
    rw [← unhide HS1]
    refine ⟨fun _ => 0, Nat.le_refl _, fun i h => ?_, rfl, .inl rfl⟩
    have e : i = 0 := by have : i < 1 := h; omega
    subst e
    exact ⟨rfl, Nat.zero_le _⟩
  by_cases hk0 : k = 0
  · subst hk0
    go_wp2_with fail
    go_ret
    refine ⟨⟨#[48]⟩, rfl, hb1, by show 1 ≤ _; omega, ?_⟩
    rw [← unhide HS1]
    refine ⟨fun _ => 0, Nat.le_refl _, fun i h => ?_, rfl, .inl rfl⟩
    have e : i = 0 := by have : i < 1 := h; omega
    subst e
    exact ⟨rfl, Nat.zero_le _⟩
  obtain ⟨m, rfl⟩ : ∃ m, k = m + 1 := ⟨k - 1, by omega⟩
  have hkb : (((m + 1 : Nat) : Int) == 0) = false := beq_eq_false_iff_ne.2 (by omega)
  have hkb2 : ((m : Int) + 1 == 0) = false := beq_eq_false_iff_ne.2 (by omega)
  have hxm := hr1.cell (i := m) (by omega)
  have hGm : G m < 1000000000 := hc1.1 m (by omega)
  have HAPP2 : Hid (AppOk (G m)) := unhide HAPP (by omega)
  clear HAPP
  have hlt1 := hr1.lt
  go_wp2_with (at_make; refine wpList_make_own _ rfl _ _ 104 rfl w1.heap.size 5 i (.int .u8 0) 1 Tryd.underlying104 hi hz0 hz1 _ _ _ ((m + 1) * 9) rfl rfl (by omega) (by rw [hz2]; omega) (by unfold maxLen; omega) (Nat.le_refl _) ?_; intro w2 hown2 hgr2; have hb2 := Below.of_grown hgr2; have hx2 := (hb2.cell (p := ⟨g, m, none⟩) hlt1).trans hxm)
  have hown0 : Own .u8 5 w2 w1.heap.size (.slice (some ⟨w1.heap.size, 0, none⟩) 0 ((m + 1) * 9)) 0 (fun _ => 0) := Own.of_row hown2 (fun j hj => by omega)
  have hz2' := hb2.size
  refine (unhide HAPP2 w1.heap.size _ 0 (fun _ => 0) _ hown0 (by omega) (by omega)).mono ?_
  rintro e w3 ⟨v3, L, d, rfl, ho3, hb3, hd3, hL1, hL2, hd0, hdec⟩
  have ho3' : Own .u8 5 w3 w1.heap.size v3 L (fun i => 48 + d i) := by
    rw [Nat.zero_add] at ho3
    exact ho3.congr (fun i hi => by simp [glue])
  have hb3' := hb2.trans hb3
  have HDEC := hide hdec
  have HD0 := hide hd0
  clear hown0 hown2 hgr2 hb2 hx2 hb3 ho3 HAPP2 hdec hd0
  go_wp2_with fail
  go_loopw [5, 6] (fun u5 t6 wr => ∃ (j L : Nat) (d : Nat → Nat), j ≤ m ∧ t6 = .int .i64 ((j : Int) - 1) ∧ Own .u8 5 wr w1.heap.size u5 L (fun i => 48 + d i) ∧ Below w1.heap.size w1 wr ∧ w1.heap.size ≤ wr.heap.size ∧ (∀ i, i < L → d i ≤ 9) ∧ 1 ≤ L ∧ L + 9 * j ≤ 20 + 9 * m ∧ d 0 ≠ 0 ∧ dec d L = num 1000000000 (fun i => G (j + i)) (m + 1 - j)) (fun _ t6 _ => (intOf t6 + 1).toNat)
  case atStart => exact ⟨m, L, d, Nat.le_refl _, rfl, ho3', hb3', by have := hb3'.size; omega, hd3, hL1, by omega, unhide HD0, by rw [unhide HDEC, show m + 1 - m = 1 from by omega]; simp [num]⟩
  case round =>
    clear ho3' hb3' HDEC HD0 hd3 hL1 hL2
    obtain ⟨j, L', d', hj, rfl, ho, hb, hsz, hd, hL1, hL2, hd0, hdec⟩ := hrel
    have HDEC := hide hdec
    have HD0 := hide hd0
    clear hdec hd0
    by_cases hj0 : j = 0
    · subst hj0
      rcases ho with ⟨h, h'⟩ | ⟨g5, cap5, h5, hb5, hc5, hr5⟩
      · omega
      subst h5
      have hconv := conv_digits _ g5 cap5 L' _ d' hd hr5
      go_wp2_with fail
      go_ret
      have hsz5 : (⟨(digText d' L').toArray⟩ : ByteArray).size = L' := by simp [ByteArray.size, digText_length]
      refine ⟨_, rfl, hb1.trans (hb.mono hb1.size), by rw [hsz5]; omega, says_mk d' L' _ hd hL1 ?_ (.inr (unhide HD0))⟩
      rw [unhide HDEC, ← unhide HS1, Nat.sub_zero]
      exact num_congr (fun i _ => by rw [Nat.zero_add])
    · obtain ⟨q, rfl⟩ : ∃ q, j = q + 1 := ⟨j - 1, by omega⟩
      have hGq : G q < 1000000000 := hc1.1 q (by omega)
      have hx := (hb.cell (p := ⟨g, q, none⟩) hlt1).trans (hr1.cell (i := q) (by omega))
      have HT := hide (num_top 1000000000 G q (m + 1) (by omega))
      have HG := hide (dec_glue d' (G q) L' hGq)
      have HGL := hide (glue_le (gr := G q) hd)
      have HG0 := hide (show glue d' (dig9 (G q)) L' 0 ≠ 0 by rw [glue_lo (by omega)]; exact unhide HD0)
      rw [show (((q + 1 : Nat) : Int) - 1) = (q : Int) from by omega]
      generalize G q = gq at *
      go_wp2_with fail
      refine (appendGroup_any w1.heap.size _ L' gq _ _ ho (by omega) (by omega) hsz).mono ?_
      rintro e w4 ⟨v4, rfl, ho4, hb4⟩
      have ho4' := ho4.congr (fun i _ => glue_digits d' (dig9 gq) L' i)
      have hb4' := hb.trans hb4
      clear ho ho4 hb hb4 hd
      go_wp2_with fail
      go_roundw
      case rel => exact ⟨q, L' + 9, glue d' (dig9 gq) L', by omega, rfl, ho4', hb4', by have := hb4'.size; omega, unhide HGL, by omega, by omega, unhide HG0, by rw [unhide HG, unhide HDEC, unhide HT]; omega⟩
      case measure => simp [intOf]

end Go.Proofs.YtjbocfhmfidjjaaDoor
