/-
  What is proved here: strconv.AppendUint appends the decimal digits of a number, where the library's table of powers of ten reads as it is laid. nat.Text answers the shortest decimal digits of a number, where the library's table of powers of ten reads as it is laid; digits behind noughts; tandemlaw00.Place; strings of digits. the row's condition on the tables gives what strconv.AppendUint asks; tandemlaw00.Place; a nought ahead of digits.
-/
import Derived.Test.YtjbocfhmfidjjaaDoorUp0
import Derived.Shelf.Strconv.AppendInt10
import Derived.Ground.NamesProg
import Derived.Test.YtjbocfhmfidjjaaDoorRows
namespace Go.Proofs.YtjbocfhmfidjjaaDoor
open Go Go.RowKit Go.Shelf

def Tab (w : World) : Prop := Lib.TabIs Tryd.prog w "internal/strconv.uint64pow10" .u64 Lib.pow10Tab
theorem Tab.up {w w' : World} (h : Tab w) (u : Up w w') : Tab w' := Lib.tabBelow_of_tabIs h w' u

def laysAU_ren : Go.Shelf.Ren := ⟨fun | 288 => 126 | 283 => 129 | 284 => 130 | 285 => 131 | 286 => 132 | 129 => 108 | 317 => 133 | 318 => 134 | 319 => 135 | 320 => 136 | 337 => 137 | 338 => 138 | n => n, fun | 37 => 104 | 53 => 59 | 3 => 3 | 4 => 4 | 9 => 9 | 171 => 128 | 0 => 0 | 173 => 130 | 212 => 133 | 51 => 64 | 5 => 5 | 20 => 20 | 213 => 134 | 46 => 63 | 232 => 135 | 233 => 136 | n => n, fun | 17 => 1 | 18 => 2 | 19 => 3 | n => n⟩
theorem laysAU : Go.Proofs.LaysM.n288 Tryd.prog laysAU_ren := {
  mixed := by kernel_rfl
  f129 := Tryd.func108.trans (congrArg some (by kernel_rfl))
  f283 := Tryd.func129.trans (congrArg some (by kernel_rfl))
  f284 := Tryd.func130.trans (congrArg some (by kernel_rfl))
  f285 := Tryd.func131.trans (congrArg some (by kernel_rfl))
  f286 := Tryd.func132.trans (congrArg some (by kernel_rfl))
  f288 := Tryd.func126.trans (congrArg some (by kernel_rfl))
  f317 := Tryd.func133.trans (congrArg some (by kernel_rfl))
  f318 := Tryd.func134.trans (congrArg some (by kernel_rfl))
  f319 := Tryd.func135.trans (congrArg some (by kernel_rfl))
  f320 := Tryd.func136.trans (congrArg some (by kernel_rfl))
  f337 := Tryd.func137.trans (congrArg some (by kernel_rfl))
  f338 := Tryd.func138.trans (congrArg some (by kernel_rfl))
  t0 := Tryd.underlying0
  a0 := Tryd.isAgg0
  z0 := Tryd.sizeOf0
  v0 := Tryd.zeroValue0
  t3 := Tryd.underlying3
  a3 := Tryd.isAgg3
  z3 := Tryd.sizeOf3
  v3 := Tryd.zeroValue3
  t4 := Tryd.underlying4
  a4 := Tryd.isAgg4
  z4 := Tryd.sizeOf4
  v4 := Tryd.zeroValue4
  t5 := Tryd.underlying5
  a5 := Tryd.isAgg5
  z5 := Tryd.sizeOf5
  v5 := Tryd.zeroValue5
  t9 := Tryd.underlying9
  a9 := Tryd.isAgg9
  z9 := Tryd.sizeOf9
  v9 := Tryd.zeroValue9
  t20 := Tryd.underlying20
  a20 := Tryd.isAgg20
  z20 := Tryd.sizeOf20
  v20 := Tryd.zeroValue20
  t37 := Tryd.underlying104
  a37 := Tryd.isAgg104
  z37 := Tryd.sizeOf104
  v37 := Tryd.zeroValue104
  t46 := Tryd.underlying63
  a46 := Tryd.isAgg63
  z46 := Tryd.sizeOf63
  v46 := Tryd.zeroValue63
  t51 := Tryd.underlying64
  a51 := Tryd.isAgg64
  z51 := Tryd.sizeOf64
  v51 := Tryd.zeroValue64
  t53 := Tryd.underlying59
  a53 := Tryd.isAgg59
  z53 := Tryd.sizeOf59
  v53 := Tryd.zeroValue59
  t171 := Tryd.underlying128
  a171 := Tryd.isAgg128
  z171 := Tryd.sizeOf128
  v171 := Tryd.zeroValue128
  t173 := Tryd.underlying130
  a173 := Tryd.isAgg130
  z173 := Tryd.sizeOf130
  v173 := Tryd.zeroValue130
  t212 := Tryd.underlying133
  a212 := Tryd.isAgg133
  z212 := Tryd.sizeOf133
  v212 := Tryd.zeroValue133
  t213 := Tryd.underlying134
  a213 := Tryd.isAgg134
  z213 := Tryd.sizeOf134
  t232 := Tryd.underlying135
  a232 := Tryd.isAgg135
  z232 := Tryd.sizeOf135
  v232 := Tryd.zeroValue135
  t233 := Tryd.underlying136
  a233 := Tryd.isAgg136
  z233 := Tryd.sizeOf136
  v233 := Tryd.zeroValue136
  g17 := by kernel_rfl
  g18 := by kernel_rfl
  g19 := by kernel_rfl
  i0 := by kernel_rfl
  i3 := by kernel_rfl
  i4 := by kernel_rfl
  i5 := by kernel_rfl
  i9 := by kernel_rfl
  i20 := by kernel_rfl
  i37 := by kernel_rfl
  i46 := by kernel_rfl
  i51 := by kernel_rfl
  i53 := by kernel_rfl
  i171 := by kernel_rfl
  i173 := by kernel_rfl
  i212 := by kernel_rfl
  i232 := by kernel_rfl
  i233 := by kernel_rfl
  m17 := by kernel_rfl
  m18 := by kernel_rfl
  m19 := by kernel_rfl }

theorem appU (B n u : Nat) (hu64 : u < 18446744073709551616) (sv : Value) (xs : List Value) (w : World) (hown : w.ownsRow B 5 1 sv n xs) (hBw : B ≤ w.heap.size) (hlim : n + 20 ≤ 140737488355328) (htab : Tab w) :
    Calls Tryd.prog 126 #[sv, .int .u64 u, .int .i64 10] w fun e w' => ∃ v', e = .returned v' ∧ w'.ownsRow B 5 1 v' (n + (Lib.decDigits u).length) (xs ++ Lib.byteCells (Lib.decDigits u)) ∧ Below B w w' ∧ Lib.OthersKept 5 none w w' :=
  Any.internal_strconv_AppendUint_10 laysAU B n u hu64 sv xs w hown hBw hlim htab

/-- The digit of u at place i from the left. -/
def dd (u i : Nat) : Nat := u / 10 ^ (Lib.nDigits u - 1 - i) % 10

theorem dec_places (L : Nat) : ∀ u, dec (fun i => u / 10 ^ (L - 1 - i) % 10) L = u % 10 ^ L := by
  induction L with
  | zero => intro u; simp [dec, Nat.mod_one]
  | succ L ih =>
    intro u
    show dec (fun i => u / 10 ^ (L + 1 - 1 - i) % 10) L * 10 + u / 10 ^ (L + 1 - 1 - L) % 10 = _
    rw [dec_congr (e := fun i => u / 10 / 10 ^ (L - 1 - i) % 10) (fun i hi => by
      rw [Nat.div_div_eq_div_mul, Nat.mul_comm, ← Nat.pow_succ, show (L - 1 - i).succ = L + 1 - 1 - i from by omega])]
    rw [ih, show L + 1 - 1 - L = 0 from by omega, Nat.pow_zero, Nat.div_one, Nat.pow_succ]
    have := Nat.mod_mul (a := 10) (b := 10 ^ L) (x := u)
    rw [Nat.mul_comm (10 ^ L) 10]
    omega
theorem ge_nDigits (u : Nat) (hu : 0 < u) : 10 ^ (Lib.nDigits u - 1) ≤ u := by
  induction u using Nat.strongRecOn with
  | _ u ih =>
    by_cases h : u < 10
    · rw [Lib.nDigits_small h]; exact hu
    · rw [Lib.nDigits_big h]
      have h1 := ih (u / 10) (by omega) (by omega)
      have h2 := Lib.nDigits_pos (u / 10)
      obtain ⟨k, hk⟩ : ∃ k, Lib.nDigits (u / 10) = k + 1 := ⟨_, (Nat.sub_add_cancel h2).symm⟩
      rw [hk] at h1 ⊢
      rw [show k + 1 + 1 - 1 = k + 1 from by omega, Nat.pow_succ]
      rw [show k + 1 - 1 = k from by omega] at h1
      omega
theorem nDigits_le (u : Nat) (hu : 0 < u) (h : u < 18446744073709551616) : Lib.nDigits u ≤ 20 := by
  apply Nat.le_of_not_lt
  intro h2
  have h3 := ge_nDigits u hu
  have h4 : 10 ^ 20 ≤ 10 ^ (Lib.nDigits u - 1) := Nat.pow_le_pow_right (by decide) (by omega)
  have h5 : 18446744073709551616 ≤ 10 ^ 20 := by decide
  omega
theorem dd_le (u i : Nat) : dd u i ≤ 9 := by
  unfold dd
  omega
theorem dd_dec (u : Nat) : dec (dd u) (Lib.nDigits u) = u := by
  show dec (fun i => u / 10 ^ (Lib.nDigits u - 1 - i) % 10) (Lib.nDigits u) = u
  rw [dec_places, Nat.mod_eq_of_lt (Lib.lt_pow_nDigits u)]
theorem dd_first (u : Nat) (hu : 0 < u) : dd u 0 ≠ 0 := by
  unfold dd
  rw [Nat.sub_zero]
  have h1 := ge_nDigits u hu
  have h2 := Lib.lt_pow_nDigits u
  have h3 := Lib.nDigits_pos u
  generalize Lib.nDigits u = k at *
  obtain ⟨j, rfl⟩ : ∃ j, k = j + 1 := ⟨k - 1, by omega⟩
  rw [show j + 1 - 1 = j from by omega] at *
  rw [Nat.pow_succ] at h2
  have h4 : 0 < 10 ^ j := Nat.pow_pos (by decide)
  have h5 : u / 10 ^ j < 10 := (Nat.div_lt_iff_lt_mul h4).2 (by rw [Nat.mul_comm]; exact h2)
  have h6 : 1 ≤ u / 10 ^ j := (Nat.le_div_iff_mul_le h4).2 (by omega)
  omega
theorem dd_cells (u j : Nat) (hj : j < Lib.nDigits u) : (Lib.byteCells (Lib.decDigits u))[j]? = some (.int .u8 ((48 + dd u j : Nat) : Int)) := by
  rw [Lib.decDigits_eq]
  unfold Lib.byteCells
  rw [List.getElem?_map, List.getElem?_map, List.getElem?_range hj]
  simp only [Option.map_some, Lib.dg, dd]
  rw [UInt8.toNat_ofNat']
  congr 2
  omega

/-- strconv.AppendUint, on a row of bytes of one's own. -/
def AppTab (u : Nat) : Prop := ∀ (base : Nat) (v : Value) (n : Nat) (t : Nat → Nat) (w : World), Own .u8 5 w base v n t → n + 20 ≤ 140737488355328 → base ≤ w.heap.size → Tab w →
    Calls Tryd.prog 113 #[v, .int .u64 u, .int .i64 10] w fun e w' => ∃ v' L d, e = .returned v' ∧ Own .u8 5 w' base v' (n + L) (glue t (fun i => 48 + d i) n) ∧ Below base w w' ∧ (∀ i, i < L → d i ≤ 9) ∧ 1 ≤ L ∧ L ≤ 20 ∧ d 0 ≠ 0 ∧ dec d L = u

theorem app_tab (u : Nat) (hu : 0 < u) (hu64 : u < 18446744073709551616) : AppTab u := by
  intro base v n t w hv hn hbase htab
  go_enter Tryd.func113, Tryd.ntmps113
  go_wp2_with fail
  refine (appU base n u hu64 v _ _ hv.row hbase hn htab).mono ?_
  rintro e w' ⟨v', rfl, ho, hb, -⟩
  have hl20 := nDigits_le u hu hu64
  go_wp2_with fail
  go_ret
  rw [Lib.decDigits_length] at ho
  refine ⟨v', Lib.nDigits u, dd u, rfl, Own.of_row ho (fun j hj => ?_), hb, fun i _ => dd_le u i, Lib.nDigits_pos u, hl20, dd_first u hu, dd_dec u⟩
  by_cases e : j < n
  · rw [List.getElem?_append_left (by rw [cellsOf_length]; exact e), cellsOf_get _ _ _ _ e, glue_lo e]
  · obtain ⟨k, rfl⟩ : ∃ k, j = n + k := ⟨j - n, by omega⟩
    rw [List.getElem?_append_right (by rw [cellsOf_length]; omega), cellsOf_length, show n + k - n = k from by omega, dd_cells u k (by omega), glue_hi]

set_option maxRecDepth 4000 in
set_option maxHeartbeats 2000000 in
theorem text_tab (v : Value) (n : Nat) (f : Nat → Nat) (w : World) (hv : Sl .u32 w v n f) (hf : ∀ i, i < n → f i < 4294967296) (hn : 100 * (n + 1) ≤ 140737488355328)
    (htab : Tab w) :
    Calls Tryd.prog 97 #[v] w fun e w' => ∃ s, e = .returned (.string s) ∧ Below w.heap.size w w' ∧ s.size ≤ 18 * n + 20 ∧ Says s (num 4294967296 f n) := by
  obtain ⟨i, hi, hz0, hz1, hz2⟩ := info_parts infoB
  go_enter Tryd.func97, Tryd.ntmps97
  go_wp2_with fail
  refine (groupsOf_any _ n f _ hv hf (by omega)).mono ?_
  rintro e w1 ⟨v1, k, G, rfl, ho1, hb1, hc1, hk1, hs1⟩
  have HS1 := hide hs1
  clear hs1
  rcases ho1 with ⟨rfl, rfl⟩ | ⟨g, cap, rfl, hg, hcap, hr1⟩
  · go_wp2_with fail
    go_ret
    refine ⟨⟨#[48]⟩, rfl, hb1, by show 1 ≤ _; omega, ?_⟩
    rw [← unhide HS1]
    refine ⟨fun _ => 0, Nat.le_refl _, fun i h => ?_, rfl, .inl rfl⟩
    have e : i = 0 := by have : i < 1 := h; omega
    subst e
    exact ⟨rfl, Nat.zero_le _⟩
  by_cases hk0 : k = 0
  · subst hk0
    go_wp2_with fail
    go_ret
    refine ⟨⟨#[48]⟩, rfl, hb1, by show 1 ≤ _; omega, ?_⟩
    rw [← unhide HS1]
    refine ⟨fun _ => 0, Nat.le_refl _, fun i h => ?_, rfl, .inl rfl⟩
    have e : i = 0 := by have : i < 1 := h; omega
    subst e
    exact ⟨rfl, Nat.zero_le _⟩
  obtain ⟨m, rfl⟩ : ∃ m, k = m + 1 := ⟨k - 1, by omega⟩
  have hkb : (((m + 1 : Nat) : Int) == 0) = false := beq_eq_false_iff_ne.2 (by omega)
  have hkb2 : ((m : Int) + 1 == 0) = false := beq_eq_false_iff_ne.2 (by omega)
  have hxm := hr1.cell (i := m) (by omega)
  have hGm : G m < 1000000000 := hc1.1 m (by omega)
  have hGm0 : 0 < G m := Nat.pos_of_ne_zero (by rcases hc1.2 with h | h; omega; rwa [Nat.add_sub_cancel] at h)
  have HAPP2 : Hid (AppTab (G m)) := hide (app_tab (G m) hGm0 (by omega))
  have hlt1 := hr1.lt
  go_wp2_with (at_make; refine wpList_make_own _ rfl _ _ 104 rfl w1.heap.size 5 i (.int .u8 0) 1 Tryd.underlying104 hi hz0 hz1 _ _ _ ((m + 1) * 9) rfl rfl (by omega) (by rw [hz2]; omega) (by unfold maxLen; omega) (Nat.le_refl _) ?_; intro w2 hown2 hgr2; have hb2 := Below.of_grown hgr2; have hx2 := (hb2.cell (p := ⟨g, m, none⟩) hlt1).trans hxm)
  have hown0 : Own .u8 5 w2 w1.heap.size (.slice (some ⟨w1.heap.size, 0, none⟩) 0 ((m + 1) * 9)) 0 (fun _ => 0) := Own.of_row hown2 (fun j hj => by omega)
  have hz2' := hb2.size
  refine (unhide HAPP2 w1.heap.size _ 0 (fun _ => 0) _ hown0 (by omega) (by omega) (htab.up (Up.tr hb1 hb2))).mono ?_
  rintro e w3 ⟨v3, L, d, rfl, ho3, hb3, hd3, hL1, hL2, hd0, hdec⟩
  have ho3' : Own .u8 5 w3 w1.heap.size v3 L (fun i => 48 + d i) := by
    rw [Nat.zero_add] at ho3
    exact ho3.congr (fun i hi => by simp [glue])
  have hb3' := hb2.trans hb3
  have HDEC := hide hdec
  have HD0 := hide hd0
  clear hown0 hown2 hgr2 hb2 hx2 hb3 ho3 HAPP2 hdec hd0
  go_wp2_with fail
  go_loopw [5, 6] (fun u5 t6 wr => ∃ (j L : Nat) (d : Nat → Nat), j ≤ m ∧ t6 = .int .i64 ((j : Int) - 1) ∧ Own .u8 5 wr w1.heap.size u5 L (fun i => 48 + d i) ∧ Below w1.heap.size w1 wr ∧ w1.heap.size ≤ wr.heap.size ∧ (∀ i, i < L → d i ≤ 9) ∧ 1 ≤ L ∧ L + 9 * j ≤ 20 + 9 * m ∧ d 0 ≠ 0 ∧ dec d L = num 1000000000 (fun i => G (j + i)) (m + 1 - j)) (fun _ t6 _ => (intOf t6 + 1).toNat)
  case atStart => exact ⟨m, L, d, Nat.le_refl _, rfl, ho3', hb3', by have := hb3'.size; omega, hd3, hL1, by omega, unhide HD0, by rw [unhide HDEC, show m + 1 - m = 1 from by omega]; simp [num]⟩
  case round =>
    clear ho3' hb3' HDEC HD0 hd3 hL1 hL2
    obtain ⟨j, L', d', hj, rfl, ho, hb, hsz, hd, hL1, hL2, hd0, hdec⟩ := hrel
    have HDEC := hide hdec
    have HD0 := hide hd0
    clear hdec hd0
    by_cases hj0 : j = 0
    · subst hj0
      rcases ho with ⟨h, h'⟩ | ⟨g5, cap5, h5, hb5, hc5, hr5⟩
      · omega
      subst h5
      have hconv := conv_digits _ g5 cap5 L' _ d' hd hr5
      go_wp2_with fail
      go_ret
      have hsz5 : (⟨(digText d' L').toArray⟩ : ByteArray).size = L' := by simp [ByteArray.size, digText_length]
      refine ⟨_, rfl, hb1.trans (hb.mono hb1.size), by rw [hsz5]; omega, says_mk d' L' _ hd hL1 ?_ (.inr (unhide HD0))⟩
      rw [unhide HDEC, ← unhide HS1, Nat.sub_zero]
      exact num_congr (fun i _ => by rw [Nat.zero_add])
    · obtain ⟨q, rfl⟩ : ∃ q, j = q + 1 := ⟨j - 1, by omega⟩
      have hGq : G q < 1000000000 := hc1.1 q (by omega)
      have hx := (hb.cell (p := ⟨g, q, none⟩) hlt1).trans (hr1.cell (i := q) (by omega))
      have HT := hide (num_top 1000000000 G q (m + 1) (by omega))
      have HG := hide (dec_glue d' (G q) L' hGq)
      have HGL := hide (glue_le (gr := G q) hd)
      have HG0 := hide (show glue d' (dig9 (G q)) L' 0 ≠ 0 by rw [glue_lo (by omega)]; exact unhide HD0)
      rw [show (((q + 1 : Nat) : Int) - 1) = (q : Int) from by omega]
      generalize G q = gq at *
      go_wp2_with fail
      refine (appendGroup_any w1.heap.size _ L' gq _ _ ho (by omega) (by omega) hsz).mono ?_
      rintro e w4 ⟨v4, rfl, ho4, hb4⟩
      have ho4' := ho4.congr (fun i _ => glue_digits d' (dig9 gq) L' i)
      have hb4' := hb.trans hb4
      clear ho ho4 hb hb4 hd
      go_wp2_with fail
      go_roundw
      case rel => exact ⟨q, L' + 9, glue d' (dig9 gq) L', by omega, rfl, ho4', hb4', by have := hb4'.size; omega, unhide HGL, by omega, by omega, unhide HG0, by rw [unhide HG, unhide HDEC, unhide HT]; omega⟩
      case measure => simp [intOf]

theorem pow10_data : (Rows.laid_internal_strconv_uint64pow10 : DataW Unit) = Lib.tabData .u64 Lib.pow10Tab := by rfl

set_option maxRecDepth 100000 in
theorem tab_of_laid {w : World} (h : laidMetH Tryd.prog Rows.numSumsRow.laid w) : Tab w := by
  have h2 : laidMet Tryd.prog Rows.numSumsRow.laid w := h
  obtain ⟨ps, ⟨_, _, _, _, _, q1, _, _, _, _, ⟨_, _, _, _, _, q2, _, _, _, _, ⟨g, t, cs, fuel, p, q, hg, ht, hvar, hd, _, _⟩, _⟩, _⟩, _⟩ := h2
  have hg' : Tryd.prog.globalNamed "internal/strconv.uint64pow10" = some 1 := by kernel_rfl
  have ht' : (Tryd.prog.globals[1]?).map (·.type) = some 133 := by kernel_rfl
  obtain rfl := Option.some.inj (hg'.symm.trans hg)
  obtain rfl := Option.some.inj (ht'.symm.trans ht)
  rw [pow10_data] at hd
  unfold Tab Lib.TabIs
  rw [hvar, ← Lib.cells_of_tab (n := 20) (e := 59) (by kernel_rfl) (by kernel_rfl) (by kernel_rfl) (by kernel_rfl) hd]

theorem place9 (z : Int) (w : World) : Calls Tryd.prog 46 #[.int .i64 z, .int .i64 9] w fun e w' => ∃ k : Nat, e = .returned (.int .i64 (k : Int)) ∧ w' = w ∧ k < 9 := by
  have h1 := Int.tmod_lt_of_pos z (show (0 : Int) < 9 by decide)
  have h2 : -9 < Int.tmod z 9 := Int.lt_tmod_of_pos z (by decide)
  go_enter Tryd.func46, Tryd.ntmps46
  generalize hr : Int.tmod z 9 = r at *
  rcases Int.lt_or_le r 0 with hn | hn
  · go_wp2
    go_ret
    exact ⟨(r + 9).toNat, by go_num, rfl, by omega⟩
  · go_wp2
    go_ret
    exact ⟨r.toNat, by go_num, rfl, by omega⟩

/-- s is a text of digits that say x. -/
def Digs (s : ByteArray) (x : Nat) : Prop := ∃ d : Nat → Nat, 1 ≤ s.size ∧ (∀ i (h : i < s.size), s[i].toNat = 48 + d i ∧ d i ≤ 9) ∧ dec d s.size = x
theorem Says.digs {s : ByteArray} {x : Nat} (h : Says s x) : Digs s x := by
  obtain ⟨d, h1, h2, h3, _⟩ := h
  exact ⟨d, h1, h2, h3⟩
theorem Digs.zero {s : ByteArray} {x : Nat} (h : Digs s x) : Digs (⟨#[48]⟩ ++ s) x ∧ (⟨#[48]⟩ ++ s : ByteArray).size = s.size + 1 := by
  obtain ⟨d, h1, h2, h3⟩ := h
  have hs : (⟨#[48]⟩ ++ s : ByteArray).size = s.size + 1 := by
    rw [ByteArray.size_append]
    show 1 + s.size = _
    omega
  refine ⟨⟨fun i => if i = 0 then 0 else d (i - 1), by omega, fun i hi => ?_, ?_⟩, hs⟩
  · by_cases e : i = 0
    · subst e
      rw [ByteArray.getElem_append_left (by decide)]
      exact ⟨rfl, by simp⟩
    · obtain ⟨j, rfl⟩ : ∃ j, i = j + 1 := ⟨i - 1, by omega⟩
      rw [ByteArray.getElem_append_right (show (⟨#[48]⟩ : ByteArray).size ≤ j + 1 from by show 1 ≤ j + 1; omega)]
      have e1 : j + 1 - (⟨#[48]⟩ : ByteArray).size = j := by show j + 1 - 1 = j; omega
      have e2 : (if j + 1 = 0 then 0 else d (j + 1 - 1)) = d j := by rw [if_neg (by omega), Nat.add_sub_cancel]
      have h3 := h2 j (by omega)
      simp only [e1, e2]
      exact h3
  · rw [hs, Nat.add_comm, dec_split]
    rw [dec_congr (d := fun i => if 1 + i = 0 then 0 else d (1 + i - 1)) (e := d) (fun i _ => by rw [if_neg (by omega), show 1 + i - 1 = i from by omega])]
    simp [dec, h3]

end Go.Proofs.YtjbocfhmfidjjaaDoor
