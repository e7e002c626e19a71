/-
  What is proved here: plain facts on dividing digit by digit, each digit found by halving; and appending a list of digits behind a list of digits. the document's own Div on limbs of 32 bits.
-/
import Derived.Test.YtdiacbfdfoeemaaDoorRMul
import Derived.Test.YtdiacbfdfoeemaaDoorRef5
namespace Go.Proofs.YtdiacbfdfoeemaaDoor
open Go Go.RowKit

/-- What the digits from k on say. -/
def top (f : Nat → Nat) (k n : Nat) : Nat := num 65536 (fun j => f (k + j)) (n - k)

theorem top_end (f : Nat → Nat) (n : Nat) : top f n n = 0 := by simp [top, num]
theorem top_all (f : Nat → Nat) (n : Nat) : top f 0 n = num 65536 f n := by
  unfold top
  exact num_congr (fun i _ => by rw [Nat.zero_add])
theorem num_first (B : Nat) (f : Nat → Nat) (n : Nat) : num B f (n + 1) = f 0 + B * num B (fun i => f (i + 1)) n := by
  rw [Nat.add_comm, num_split B f 1 n]
  simp only [num_succ, num_zero, Nat.pow_zero, Nat.mul_one, Nat.zero_add, Nat.pow_one]
  rw [num_congr (g := fun i => f (i + 1)) (fun i _ => by rw [Nat.add_comm])]
theorem top_step {f : Nat → Nat} {k n : Nat} (h : k < n) : top f k n = f k + 65536 * top f (k + 1) n := by
  unfold top
  rw [show n - k = (n - (k + 1)) + 1 from by omega, num_first]
  rw [num_congr (f := fun i => f (k + (i + 1))) (g := fun j => f (k + 1 + j)) (fun i _ => by rw [show k + (i + 1) = k + 1 + i from by omega])]
  simp
theorem top_upd {f : Nat → Nat} {k n x : Nat} : top (upd f k x) (k + 1) n = top f (k + 1) n := by
  unfold top
  exact num_congr (fun i _ => upd_other (by omega))

/-- Behind the digits from k on: the quotient's digits, and the rest. -/
def RDivRel (f q : Nat → Nat) (n k Y R : Nat) : Prop := top f k n = top q k n * Y + R ∧ R < Y

theorem RDivRel.start {f q : Nat → Nat} {n Y : Nat} (h : 0 < Y) : RDivRel f q n n Y 0 := ⟨by rw [top_end, top_end]; simp, h⟩
theorem RDivRel.step {f q : Nat → Nat} {n k Y R l R2 : Nat} (r : RDivRel f q n (k + 1) Y R) (hk : k < n) (h1 : R2 + Y * l = f k + 65536 * R) (h2 : f k + 65536 * R < Y * (l + 1)) : RDivRel f (upd q k l) n k Y R2 := by
  obtain ⟨a, b⟩ := r
  refine ⟨?_, ?_⟩
  · rw [top_step hk, top_step hk, upd_same, top_upd, a]
    rw [Nat.add_mul, Nat.mul_add, Nat.mul_assoc, Nat.mul_comm l Y]
    omega
  · rw [Nat.mul_add, Nat.mul_one] at h2
    omega
theorem RDivRel.done {f q : Nat → Nat} {n Y R : Nat} (r : RDivRel f q n 0 Y R) : num 65536 q n = num 65536 f n / Y ∧ R = num 65536 f n % Y := by
  obtain ⟨a, b⟩ := r
  rw [top_all, top_all] at a
  rw [a]
  refine ⟨?_, ?_⟩
  · rw [Nat.mul_comm, Nat.mul_add_div (by omega), Nat.div_eq_of_lt b, Nat.add_zero]
  · rw [Nat.mul_comm, Nat.mul_add_mod, Nat.mod_eq_of_lt b]

/-- The halving: the digit lies from lo on, below hi. -/
def HalfRel (Y T lo hi : Nat) : Prop := Y * lo ≤ T ∧ T < Y * hi
theorem HalfRel.start {Y R x : Nat} (h : R < Y) (hx : x < 65536) : HalfRel Y (x + 65536 * R) 0 65536 := by
  refine ⟨by omega, ?_⟩
  have : 65536 * (R + 1) ≤ 65536 * Y := Nat.mul_le_mul_left _ h
  rw [Nat.mul_comm Y]
  omega

/-- One list of digits behind another. -/
def cat (g : Nat → Nat) (m : Nat) (f : Nat → Nat) : Nat → Nat := fun i => if i < m then g i else f (i - m)
theorem cat_first (g f : Nat → Nat) (n : Nat) : num 65536 (cat g 1 f) (1 + n) = g 0 + 65536 * num 65536 f n := by
  rw [Nat.add_comm 1 n, num_first]
  rw [num_congr (f := fun i => cat g 1 f (i + 1)) (g := f) (fun i _ => by simp [cat])]
  simp [cat]
theorem cat_lt {B : Nat} {g f : Nat → Nat} {m n : Nat} (hg : ∀ i, i < m → g i < B) (hf : ∀ i, i < n → f i < B) : ∀ i, i < m + n → cat g m f i < B := by
  intro i hi
  unfold cat
  by_cases h : i < m
  · rw [if_pos h]; exact hg i h
  · rw [if_neg h]; exact hf _ (by omega)

theorem cat_cells {k : IntKind} {g f : Nat → Nat} {m n j : Nat} (hj : j < m + n) : (cellsOf k g m ++ cellsOf k f n)[j]? = some (.int k (cat g m f j)) := by
  unfold cat
  by_cases h : j < m
  · rw [if_pos h, List.getElem?_append_left (by rw [cellsOf_length]; exact h), cellsOf_get _ _ _ _ h]
  · rw [if_neg h, List.getElem?_append_right (by rw [cellsOf_length]; omega), cellsOf_length, cellsOf_get _ _ _ _ (by omega)]

/-- append of all the digits of a list behind a list that the call owns. -/
theorem wpList_catI {w : World} {ops : Array Oper} {rest : List Oper} {o : Oper} {a : Act} {Q : Exit → Act → World → Prop}
    (hgd : o.guard = none) (s x : Operand) (ho : o.op = .call { callee := .builtin .append, args := #[s, x], argTypes := #[88, 88] })
    (base : Nat) (v u : Value) (m n : Nat) (g f : Nat → Nat) (hs : a.eval s = v) (hx : a.eval x = u)
    (hv : Own .i64 3 w base v m g) (hu : Sl .i64 w u n f) (hb : (m + n) * 8 ≤ 140737488355328) (hbase : base ≤ w.heap.size)
    (hK : ∀ v' w', Own .i64 3 w' base v' (m + n) (cat g m f) → Below base w w' → wpList Tryd.prog ops Q rest (a.put o.dst v') w') :
    wpList Tryd.prog ops Q (o :: rest) a w := by
  obtain ⟨i, hi, hz0, hz1, hz2⟩ := info_parts infoI
  obtain ⟨ao, cap, rfl, h1, h2, h0, h3⟩ := hu
  have hcs := cellsOf_length .i64 f n
  have hrow := hv.row
  have key : ∀ v' w', w'.ownsRow base 3 1 v' (m + n) (cellsOf .i64 g m ++ cellsOf .i64 f n) → w.grownBy w' v.ownBlock → wpList Tryd.prog ops Q rest (a.put o.dst v') w' := fun v' w' ho hg =>
    hK v' w' (Own.of_row ho (fun j hj => cat_cells hj)) ((Below.refl base w).grown hg hbase (fun j hj => (hrow.lt j hj).1))
  cases ao with
  | none =>
    obtain rfl := h0 rfl
    obtain rfl : n = 0 := by omega
    refine wpList_append_own_none hgd _ _ 88 ho base 3 i 1 Tryd.underlying88 hi v m _ hs hrow hx ?_
    exact hK v w (Own.of_row hrow (fun j hj => by rw [cellsOf_get _ _ _ _ (show j < m from hj)]; unfold cat; rw [if_pos (show j < m from hj)])) (Below.refl _ _)
  | some ad =>
    by_cases hn : n = 0
    · subst hn
      refine wpList_append_own _ hgd _ _ 88 ho base 3 i (.int .i64 0) 1 8 Tryd.underlying88 hi hz0 hz1 hz2 rfl (by decide) v m _ hs hrow ad 0 _ [] hx rfl (fun j u hj => by simp at hj) (fun u hu => by simp at hu) (by unfold maxLen; omega) (by omega) hbase ?_
      intro v' w1 hown hgrow _
      exact key v' w1 (by simpa [cellsOf] using hown) hgrow
    · obtain ⟨b, off, e, hl, hc⟩ := h3.cells (by omega)
      cases e
      refine wpList_append_own _ hgd _ _ 88 ho base 3 i (.int .i64 0) 1 8 Tryd.underlying88 hi hz0 hz1 hz2 rfl (by decide) v m _ hs hrow ⟨b, off, none⟩ n _ (cellsOf .i64 f n) hx (by rw [hcs]; omega) hc (cellsOf_one _ _ _) (by unfold maxLen; omega) (by omega) hbase ?_
      intro v' w1 hown hgrow _
      exact key v' w1 hown hgrow

theorem litI (w : World) (E : TypeId) (a : Nat) : Sl .i64 (w.alloc (.cells #[.int .i64 a] E)) (.slice (some ⟨w.heap.size, 0, none⟩) 1 1) 1 (fun _ => a) :=
  (row_lit w E .i64 #[.int .i64 a] 1 (fun _ => a) rfl (fun i hi => by obtain rfl : i = 0 := (by omega); rfl)).sl (by omega)
theorem ownI (w : World) (E : TypeId) (a : Nat) : Own .i64 E (w.alloc (.cells #[.int .i64 a] E)) w.heap.size (.slice (some ⟨w.heap.size, 0, none⟩) 1 1) 1 (fun _ => a) :=
  .inr ⟨w.heap.size, 1, rfl, Nat.le_refl _, by omega, row_lit w E .i64 #[.int .i64 a] 1 (fun _ => a) rfl (fun i hi => by obtain rfl : i = 0 := (by omega); rfl)⟩

theorem num_one (B : Nat) (f : Nat → Nat) : num B f 1 = f 0 := by simp [num]
theorem cmpN_le {x y : Nat} (h : x ≤ y) : cmpN x y ≤ 0 := by
  unfold cmpN
  split
  · omega
  · split <;> omega
theorem Own.set {k : IntKind} {E : TypeId} {w : World} {g n i : Nat} {v u : Value} {f : Nat → Nat} (h : Own k E w (g + 1) v n f) : Own k E (w.setCell ⟨g, i, none⟩ u) (g + 1) v n f := by
  rcases h with ⟨rfl, rfl⟩ | ⟨g', cap, rfl, h1, h2, h3⟩
  · exact .inl ⟨rfl, rfl⟩
  · exact .inr ⟨g', cap, rfl, h1, h2, h3.block (heap_setCell_other _ _ _ _ (by show g' ≠ g; omega))⟩

theorem rDiv_zero (v u : Value) (n m : Nat) (f h : Nat → Nat) (w : World) (hv : Sl .u32 w v n f) (hu : Sl .u32 w u m h) (hf : ∀ i, i < n → f i < 4294967296) (hh : ∀ i, i < m → h i < 4294967296) (hn : n ≤ 100000000000) (hm : m ≤ 100000000000) (hz : num 4294967296 h m = 0) :
    Calls Tryd.prog 64 #[v, u] w fun e w' => e = .returned (.tuple #[.slice none 0 0, .slice none 0 0, .bool false]) ∧ Below w.heap.size w w' := by
  have HZ := hide hz
  clear hz
  go_enter Tryd.func64, Tryd.ntmps64
  go_wp2_with fail
  refine (half_any _ n f _ hv hf (by omega)).mono ?_
  rintro e w1 ⟨n1, f1, a1, rfl, o1, u1, c1, l1, p1⟩
  replace u1 : Up w w1 := u1
  clear p1
  go_wp2_with fail
  refine (half_any _ m h _ (hu.up u1) hh (by omega)).mono ?_
  rintro e w2 ⟨n2, f2, a2, rfl, o2, u2, c2, l2, p2⟩
  replace u2 : Up w1 w2 := u2
  obtain ⟨yo, yc, rfl, -⟩ := id o2.sl
  have hn2 : n2 = 0 := by
    apply Nat.eq_zero_of_not_pos
    intro hp
    have := num_ge (B := 65536) hp (c2.2.resolve_left (by omega))
    have h2 : 0 < 65536 ^ (n2 - 1) := Nat.pos_of_ne_zero (by simp)
    rw [p2, unhide HZ] at this
    omega
  subst hn2
  clear p2
  go_wp2_with fail
  go_ret3
  exact ⟨rfl, u1.tr u2⟩

set_option maxRecDepth 4000 in
set_option maxHeartbeats 4000000 in
theorem rDiv_any (v u : Value) (n m : Nat) (f h : Nat → Nat) (w : World) (hv : Sl .u32 w v n f) (hu : Sl .u32 w u m h) (hf : ∀ i, i < n → f i < 4294967296) (hh : ∀ i, i < m → h i < 4294967296) (hn : n ≤ 100000000000) (hm : m ≤ 100000000000) (hpos : 0 < num 4294967296 h m) :
    Calls Tryd.prog 64 #[v, u] w fun e w' => Hid (∃ (nq nr : Nat) (fq fr : Nat → Nat) (vq vr : Value), e = .returned (.tuple #[vq, vr, .bool true]) ∧ Own .u32 64 w' w.heap.size vq nq fq ∧ Own .u32 64 w' w.heap.size vr nr fr ∧ Below w.heap.size w w' ∧
      Can 4294967296 fq nq ∧ Can 4294967296 fr nr ∧ num 4294967296 fq nq = num 4294967296 f n / num 4294967296 h m ∧ num 4294967296 fr nr = num 4294967296 f n % num 4294967296 h m) := by
  go_enter Tryd.func64, Tryd.ntmps64
  go_wp2_with fail
  refine (half_any _ n f _ hv hf (by omega)).mono ?_
  rintro e w1 ⟨n1, f1, a1, rfl, o1, u1, c1, l1, p1⟩
  replace u1 : Up w w1 := u1
  go_wp2_with fail
  refine (half_any _ m h _ (hu.up u1) hh (by omega)).mono ?_
  rintro e w2 ⟨n2, f2, a2, rfl, o2, u2, c2, l2, p2⟩
  replace u2 : Up w1 w2 := u2
  have P1 := hide p1
  have P2 := hide p2
  have HPOS := hide (show 0 < num 65536 f2 n2 by rw [p2]; exact hpos)
  have hn2 : 0 < n2 := by
    rcases Nat.eq_zero_or_pos n2 with e | e
    · rw [e, num_zero] at p2; omega
    · exact e
  have hne : ((n2 : Int) == 0) = false := beq_eq_false_iff_ne.2 (by omega)
  have sx := o1.sl.up u2
  have sy := o2.sl
  have U2 : Up w w2 := u1.tr u2
  clear p1 p2 hpos o1 o2 u1 u2
  obtain ⟨xo, xc, rfl, x1, x2, -, x3⟩ := id sx
  obtain ⟨yo, yc, rfl, y1, y2, -⟩ := id sy
  go_wp2_with (at_make; refine wpList_mkI rfl _ _ rfl .i64 .i64 _ _ n1 rfl rfl (by omega) (by omega) (by omega) ?_; intro w3 hr3 hb3)
  go_loopw [10, 11] (fun u10 t11 wr => ∃ (k nr : Nat) (q fr : Nat → Nat), k ≤ n1 ∧ t11 = .int .i64 ((k : Int) - 1) ∧ Own .i64 3 wr (w2.heap.size + 1) u10 nr fr ∧ RowAt .i64 3 wr w2.heap.size n1 n1 q ∧ Below w2.heap.size w2 wr ∧ Can 65536 fr nr ∧ (∀ i, i < n1 → q i < 65536) ∧ Hid (RDivRel f1 q n1 k (num 65536 f2 n2) (num 65536 fr nr))) (fun _ t11 _ => (intOf t11 + 1).toNat)
  case atStart => exact ⟨n1, 0, fun _ => 0, fun _ => 0, Nat.le_refl _, by go_num, .inl ⟨rfl, rfl⟩, hr3, hb3, ⟨fun i hi => by omega, .inl rfl⟩, fun _ _ => (by decide : (0 : Nat) < 65536), hide (RDivRel.start (unhide HPOS))⟩
  case round =>
    obtain ⟨k, nr, q, fr, hk, rfl, hor, hq, hb, cr, hqd, HR⟩ := hrel
    clear hr3 hb3
    have hsz := hq.lt
    rcases Nat.eq_zero_or_pos k with hk0 | hk0
    · subst hk0
      have hqs := hq.sl (by omega)
      have hrs := hor.sl
      have hnr : nr ≤ n2 := by
        apply Nat.le_of_not_lt
        intro hlt
        have := can_lt (B := 65536) (by decide) c2.1 cr hlt
        have := (unhide HR).2
        omega
      go_wp2_with fail
      refine (full_any _ n1 q _ hqs hqd (by omega)).mono ?_
      rintro e w4 ⟨n4, f4, a4, rfl, o4, u4, c4, l4, p4⟩
      replace u4 : Up wr w4 := u4
      have P4 := hide p4
      clear p4
      go_wp2_with fail
      refine (full_any _ nr fr _ (hrs.up u4) cr.1 (by omega)).mono ?_
      rintro e w5 ⟨n5, f5, a5, rfl, o5, u5, c5, l5, p5⟩
      replace u5 : Up w4 w5 := u5
      have P5 := hide p5
      have z1 := Below.size U2
      have z2 := hb.size
      have z3 := Below.size u4
      clear p5
      go_wp2_with fail
      go_ret3
      obtain ⟨d1, d2⟩ := (unhide HR).done
      exact hide ⟨n4, n5, f4, f5, a4, a5, rfl, (o4.up u5).mono (by omega), o5.mono (by omega), Up.tr U2 (hb.trans (Below.mono (u4.tr u5) z2)), c4, c5, by rw [unhide P4, d1, unhide P1, unhide P2], by rw [unhide P5, d2, unhide P1, unhide P2]⟩
    · obtain ⟨j, rfl⟩ : ∃ j, k = j + 1 := ⟨k - 1, by omega⟩
      have ej : ((j + 1 : Nat) : Int) - 1 = (j : Int) := by omega
      rw [ej]
      have hjn : j < n1 := by omega
      rcases x3 with x3 | ⟨bx, offx, rfl, hcx⟩
      · omega
      have hx1 := (hb.cell (p := ⟨bx, offx + j, none⟩) (Rd.lt hcx (by omega))).trans (hcx j hjn)
      have hxl := c1.1 j hjn
      have hlt := (unhide HR).2
      have hnr : nr ≤ n2 := by
        apply Nat.le_of_not_lt
        intro hlt2
        have := can_lt (B := 65536) (by decide) c2.1 cr hlt2
        omega
      have HT := hide (HalfRel.start hlt hxl)
      have HS := hide (fun (l R2 : Nat) => (unhide HR).step (l := l) (R2 := R2) hjn)
      have hrs := hor.sl
      have syr := sy.below hb (Nat.le_refl _)
      have i1 : (0 : Int) ≤ (j : Int) := by omega
      have i2 : (j : Int) < (n1 : Int) := by omega
      clear hlt HR hcx hor
      generalize hxx : f1 j = x at *
      obtain ⟨ro, rc, rfl, -⟩ := id hrs
      go_wp2_with (at_builtin; refine wpList_catI rfl _ _ rfl wr.heap.size _ _ 1 nr (fun _ => x) fr rfl rfl (ownI wr _ x) (hrs.up (below_alloc wr _)) (by omega) (by rw [size_alloc]; omega) ?_; intro v4 w4 ho4 hb4)
      have u4 : Up wr w4 := (below_alloc wr _).trans hb4
      have D4 := hide (cat_lt (B := 65536) (g := fun _ => x) (m := 1) (fun _ _ => hxl) cr.1)
      have P4 := hide (cat_first (fun _ => x) fr nr)
      generalize hcc : cat (fun _ => x) 1 fr = f4 at *
      refine (rtrim_any _ (1 + nr) f4 _ ho4.sl (by omega)).mono ?_
      rintro e w5 ⟨n5, v5, rfl, o5, b5, l5, z5, t5⟩
      replace b5 : Up w4 w5 := b5
      have U5 : Up wr w5 := u4.tr b5
      have c5 : Can 65536 f4 n5 := ⟨fun i hi => unhide D4 i (by omega), t5⟩
      have P5 := hide (show num 65536 f4 n5 = x + 65536 * num 65536 fr nr by rw [← num_tail l5 z5]; exact unhide P4)
      have s5 := o5.sl
      have hz5 : w2.heap.size < w5.heap.size := by have := Below.size U5; omega
      have hq5 := hq.block (U5.block w2.heap.size hsz)
      have hb5 : Below w2.heap.size w2 w5 := hb.trans (Below.mono U5 (by omega))
      have o5z := o5.mono (show w2.heap.size + 1 ≤ w4.heap.size by have := Below.size u4; omega)
      clear z5 t5 P4 D4 ho4 hb4 hcc hx1
      obtain ⟨ro5, rc5, rfl, -⟩ := id s5
      go_wp2_with fail
      go_loopw [12, 13] (fun t12 t13 ws => ∃ lo hi : Nat, t12 = .int .i64 lo ∧ t13 = .int .i64 hi ∧ lo < hi ∧ hi ≤ 65536 ∧ Up w5 ws ∧ Hid (HalfRel (num 65536 f2 n2) (x + 65536 * num 65536 fr nr) lo hi)) (fun t12 t13 _ => (intOf t13 - intOf t12).toNat)
      case atStart => exact ⟨0, 65536, rfl, rfl, by omega, by omega, Up.refl _, HT⟩
      case round =>
        obtain ⟨lo, hi, rfl, rfl, hlh, hh6, us, HL⟩ := hrel
        have sys := (syr.up U5).up us
        have s5s := s5.up us
        by_cases hgt : lo + 1 < hi
        · have g1 : (1 : Int) < (hi : Int) - (lo : Int) := by omega
          have g2 : ((lo : Int) + (hi : Int)) / 2 = (((lo + hi) / 2 : Nat) : Int) := by omega
          have g2t : Int.tdiv ((lo : Int) + (hi : Int)) 2 = (((lo + hi) / 2 : Nat) : Int) := by
            rw [Int.tdiv_eq_ediv_of_nonneg (by omega)]; exact g2
          have m1 : lo < (lo + hi) / 2 := by omega
          have m2 : (lo + hi) / 2 < hi := by omega
          generalize (lo + hi) / 2 = mid at *
          go_wp2_with fail
          refine (rmul_any _ _ n2 1 f2 (fun _ => mid) _ (sys.up (below_alloc wr _)) (litI wr _ mid) c2.1 (fun _ _ => by omega) (by omega) (by omega)).mono ?_
          rintro e w6 HX
          obtain ⟨n6, f6, a6, rfl, o6, b6, c6, l6, p6⟩ := unhide HX
          have u6 : Up wr w6 := Up.tr (below_alloc wr _) b6
          rw [num_one] at p6
          have s6 := o6.sl
          have P6 := hide p6
          clear p6 HX o6 b6
          go_wp2_with fail
          refine (rcmp_any _ _ n6 n5 f6 f4 _ s6 (s5s.up u6) c6.1 c5.1 (by omega) (by omega)).mono ?_
          rintro e w7 ⟨rfl, u7⟩
          replace u7 : Up w6 w7 := u7
          have U7 : Up w5 w7 := us.tr (u6.tr u7)
          rw [unhide P6, unhide P5]
          rcases Nat.lt_or_ge (x + 65536 * num 65536 fr nr) (num 65536 f2 n2 * mid) with hc | hc
          · rw [cmpN_gt hc]
            have HL2 := hide (show HalfRel (num 65536 f2 n2) (x + 65536 * num 65536 fr nr) lo mid from ⟨(unhide HL).1, hc⟩)
            clear hc HL
            go_wp2_with fail
            go_roundw
            case rel => exact ⟨lo, mid, rfl, rfl, m1, by omega, U7, HL2⟩
            case measure => simp [intOf]; omega
          · have hcc := cmpN_le hc
            have HL2 := hide (show HalfRel (num 65536 f2 n2) (x + 65536 * num 65536 fr nr) mid hi from ⟨hc, (unhide HL).2⟩)
            generalize cmpN (num 65536 f2 n2 * mid) (x + 65536 * num 65536 fr nr) = cc at *
            clear hc HL
            go_wp2_with fail
            go_roundw
            case rel => exact ⟨mid, hi, rfl, rfl, m2, by omega, U7, HL2⟩
            case measure => simp [intOf]; omega
        · have g1 : (hi : Int) - (lo : Int) ≤ 1 := by omega
          have hhi : hi = lo + 1 := by omega
          have hqs := hq5.block (us.block w2.heap.size hz5)
          have hbs : Below w2.heap.size w2 wr := hb5.trans (Below.mono us (by omega))
          have hzs : w2.heap.size < wr.heap.size := by have := Below.size us; omega
          have os := o5z.up us
          have hcell := hqs.cell hjn
          have hfree := hqs.free j
          have hqn := hqs.set hjn lo
          have hbn := hbs.setCell (p := ⟨w2.heap.size, j, none⟩) (Nat.le_refl _) (.int .i64 lo)
          have osn := (os.set (i := j) (u := .int .i64 (lo : Int))).sl
          have syn := sy.below hbn (Nat.le_refl _)
          have hzn : (wr.setCell ⟨w2.heap.size, j, none⟩ (.int .i64 (lo : Int))).heap.size = wr.heap.size := by simp [World.setCell]
          have HQD := hide (fun i (hi : i < n1) => show upd q j lo i < 65536 by
            by_cases e : i = j
            · rw [e, upd_same]; omega
            · rw [upd_other e]; exact hqd i hi)
          clear hqs os hbs o5z hq5 hb5 syr sys s5s
          go_wp2_with fail
          generalize wr.setCell ⟨w2.heap.size, j, none⟩ (.int .i64 (lo : Int)) = wn at *
          rw [← hzn]
          refine (rmul_any _ _ n2 1 f2 (fun _ => lo) _ (syn.up (below_alloc wn _)) (litI wn _ lo) c2.1 (fun _ _ => by omega) (by omega) (by omega)).mono ?_
          rintro e w6 HX
          obtain ⟨n6, f6, a6, rfl, o6, b6, c6, l6, p6⟩ := unhide HX
          have u6 : Up wn w6 := Up.tr (below_alloc wn _) b6
          rw [num_one] at p6
          have s6 := o6.sl
          have hle : num 65536 f6 n6 ≤ num 65536 f4 n5 := by rw [p6, unhide P5]; exact (unhide HL).1
          have hlen : n6 ≤ n5 := by
            apply Nat.le_of_not_lt
            intro hlt2
            have := can_lt (B := 65536) (by decide) c5.1 c6 hlt2
            omega
          have P6 := hide p6
          clear p6 HX o6 b6
          go_wp2_with fail
          refine (rsub_any _ _ n5 n6 f4 f6 _ (osn.up u6) s6 c5.1 c6.1 hlen (by omega) hle).mono ?_
          rintro e w7 ⟨n7, f7, a7, rfl, o7, u7, c7, l7, p7⟩
          replace u7 : Up w6 w7 := u7
          have U7 : Up wn w7 := u6.tr u7
          have HE := hide (unhide HS lo (num 65536 f7 n7) (by rw [← unhide P6, ← unhide P5]; exact p7) (by rw [← hhi]; exact (unhide HL).2))
          have hz6 := Below.size u6
          clear p7 hle
          go_wp2_with fail
          go_roundw
          case rel => exact ⟨j, n7, upd q j lo, f7, by omega, by go_num, o7.mono (by omega), hqn.block (U7.block _ (by omega)), hbn.trans (Below.mono U7 (by omega)), c7, unhide HQD, HE⟩
          case measure => simp [intOf]

end Go.Proofs.YtdiacbfdfoeemaaDoor
