/-
  What is proved here: nat.Text answers the shortest decimal digits of a number, where the library's table of powers of ten reads as it is laid; digits behind noughts; tandemlaw00.Place; strings of digits.
-/
import Derived.Test.YtkmpobmpencefaaDoorAppTab
namespace Go.Proofs.YtkmpobmpencefaaDoor
open Go Go.RowKit

set_option maxRecDepth 4000 in
set_option maxHeartbeats 2000000 in
theorem text_tab (v : Value) (n : Nat) (f : Nat → Nat) (w : World) (hv : Sl .u32 w v n f) (hf : ∀ i, i < n → f i < 4294967296) (hn : 100 * (n + 1) ≤ 140737488355328)
    (htab : Tab w) :
    Calls Tryd.prog 97 #[v] w fun e w' => ∃ s, e = .returned (.string s) ∧ Below w.heap.size w w' ∧ s.size ≤ 18 * n + 20 ∧ Says s (num 4294967296 f n) := by
  obtain ⟨i, hi, hz0, hz1, hz2⟩ := info_parts infoB
  go_enter Tryd.func97, Tryd.ntmps97
  go_wp2_with fail
  refine (groupsOf_any _ n f _ hv hf (by omega)).mono ?_
  rintro e w1 ⟨v1, k, G, rfl, ho1, hb1, hc1, hk1, hs1⟩
  have HS1 := hide hs1
  clear hs1
  rcases ho1 with ⟨rfl, rfl⟩ | ⟨g, cap, rfl, hg, hcap, hr1⟩
  · go_wp2_with fail
    go_ret
    refine ⟨⟨#[48]⟩, rfl, hb1, by show 1 ≤ _; omega, ?_⟩
    rw [← unhide HS1]
    refine ⟨fun _ => 0, Nat.le_refl _, fun i h => ?_, rfl, .inl rfl⟩
    have e : i = 0 := by have : i < 1 := h; omega
    subst e
    exact ⟨rfl, Nat.zero_le _⟩
  by_cases hk0 : k = 0
  · subst hk0
    go_wp2_with fail
    go_ret
    refine ⟨⟨#[48]⟩, rfl, hb1, by show 1 ≤ _; omega, ?_⟩
    rw [← unhide HS1]
    refine ⟨fun _ => 0, Nat.le_refl _, fun i h => ?_, rfl, .inl rfl⟩
    have e : i = 0 := by have : i < 1 := h; omega
    subst e
    exact ⟨rfl, Nat.zero_le _⟩
  obtain ⟨m, rfl⟩ : ∃ m, k = m + 1 := ⟨k - 1, by omega⟩
  have hkb : (((m + 1 : Nat) : Int) == 0) = false := beq_eq_false_iff_ne.2 (by omega)
  have hkb2 : ((m : Int) + 1 == 0) = false := beq_eq_false_iff_ne.2 (by omega)
  have hxm := hr1.cell (i := m) (by omega)
  have hGm : G m < 1000000000 := hc1.1 m (by omega)
  have hGm0 : 0 < G m := Nat.pos_of_ne_zero (by rcases hc1.2 with h | h; omega; rwa [Nat.add_sub_cancel] at h)
  have HAPP2 : Hid (AppTab (G m)) := hide (app_tab (G m) hGm0 (by omega))
  have hlt1 := hr1.lt
  go_wp2_with (at_make; refine wpList_make_own _ rfl _ _ 104 rfl w1.heap.size 5 i (.int .u8 0) 1 Tryd.underlying104 hi hz0 hz1 _ _ _ ((m + 1) * 9) rfl rfl (by omega) (by rw [hz2]; omega) (by unfold maxLen; omega) (Nat.le_refl _) ?_; intro w2 hown2 hgr2; have hb2 := Below.of_grown hgr2; have hx2 := (hb2.cell (p := ⟨g, m, none⟩) hlt1).trans hxm)
  have hown0 : Own .u8 5 w2 w1.heap.size (.slice (some ⟨w1.heap.size, 0, none⟩) 0 ((m + 1) * 9)) 0 (fun _ => 0) := Own.of_row hown2 (fun j hj => by omega)
  have hz2' := hb2.size
  refine (unhide HAPP2 w1.heap.size _ 0 (fun _ => 0) _ hown0 (by omega) (by omega) (htab.up (Up.tr hb1 hb2))).mono ?_
  rintro e w3 ⟨v3, L, d, rfl, ho3, hb3, hd3, hL1, hL2, hd0, hdec⟩
  have ho3' : Own .u8 5 w3 w1.heap.size v3 L (fun i => 48 + d i) := by
    rw [Nat.zero_add] at ho3
    exact ho3.congr (fun i hi => by simp [glue])
  have hb3' := hb2.trans hb3
  have HDEC := hide hdec
  have HD0 := hide hd0
  clear hown0 hown2 hgr2 hb2 hx2 hb3 ho3 HAPP2 hdec hd0
  go_wp2_with fail
  go_loopw [5, 6] (fun u5 t6 wr => ∃ (j L : Nat) (d : Nat → Nat), j ≤ m ∧ t6 = .int .i64 ((j : Int) - 1) ∧ Own .u8 5 wr w1.heap.size u5 L (fun i => 48 + d i) ∧ Below w1.heap.size w1 wr ∧ w1.heap.size ≤ wr.heap.size ∧ (∀ i, i < L → d i ≤ 9) ∧ 1 ≤ L ∧ L + 9 * j ≤ 20 + 9 * m ∧ d 0 ≠ 0 ∧ dec d L = num 1000000000 (fun i => G (j + i)) (m + 1 - j)) (fun _ t6 _ => (intOf t6 + 1).toNat)
  case atStart => exact ⟨m, L, d, Nat.le_refl _, rfl, ho3', hb3', by have := hb3'.size; omega, hd3, hL1, by omega, unhide HD0, by rw [unhide HDEC, show m + 1 - m = 1 from by omega]; simp [num]⟩
  case round =>
    clear ho3' hb3' HDEC HD0 hd3 hL1 hL2
    obtain ⟨j, L', d', hj, rfl, ho, hb, hsz, hd, hL1, hL2, hd0, hdec⟩ := hrel
    have HDEC := hide hdec
    have HD0 := hide hd0
    clear hdec hd0
    by_cases hj0 : j = 0
    · subst hj0
      rcases ho with ⟨h, h'⟩ | ⟨g5, cap5, h5, hb5, hc5, hr5⟩
      · omega
      subst h5
      have hconv := conv_digits _ g5 cap5 L' _ d' hd hr5
      go_wp2_with fail
      go_ret
      have hsz5 : (⟨(digText d' L').toArray⟩ : ByteArray).size = L' := by simp [ByteArray.size, digText_length]
      refine ⟨_, rfl, hb1.trans (hb.mono hb1.size), by rw [hsz5]; omega, says_mk d' L' _ hd hL1 ?_ (.inr (unhide HD0))⟩
      rw [unhide HDEC, ← unhide HS1, Nat.sub_zero]
      exact num_congr (fun i _ => by rw [Nat.zero_add])
    · obtain ⟨q, rfl⟩ : ∃ q, j = q + 1 := ⟨j - 1, by omega⟩
      have hGq : G q < 1000000000 := hc1.1 q (by omega)
      have hx := (hb.cell (p := ⟨g, q, none⟩) hlt1).trans (hr1.cell (i := q) (by omega))
      have HT := hide (num_top 1000000000 G q (m + 1) (by omega))
      have HG := hide (dec_glue d' (G q) L' hGq)
      have HGL := hide (glue_le (gr := G q) hd)
      have HG0 := hide (show glue d' (dig9 (G q)) L' 0 ≠ 0 by rw [glue_lo (by omega)]; exact unhide HD0)
      rw [show (((q + 1 : Nat) : Int) - 1) = (q : Int) from by omega]
      generalize G q = gq at *
      go_wp2_with fail
      refine (appendGroup_any w1.heap.size _ L' gq _ _ ho (by omega) (by omega) hsz).mono ?_
      rintro e w4 ⟨v4, rfl, ho4, hb4⟩
      have ho4' := ho4.congr (fun i _ => glue_digits d' (dig9 gq) L' i)
      have hb4' := hb.trans hb4
      clear ho ho4 hb hb4 hd
      go_wp2_with fail
      go_roundw
      case rel => exact ⟨q, L' + 9, glue d' (dig9 gq) L', by omega, rfl, ho4', hb4', by have := hb4'.size; omega, unhide HGL, by omega, by omega, unhide HG0, by rw [unhide HG, unhide HDEC, unhide HT]; omega⟩
      case measure => simp [intOf]

end Go.Proofs.YtkmpobmpencefaaDoor
