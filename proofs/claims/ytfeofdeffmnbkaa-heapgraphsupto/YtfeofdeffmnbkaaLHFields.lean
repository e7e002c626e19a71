/-
  What is proved here: HeapFields answers true for every two numbers and every two lists, and turns nothing that was there.
-/
import Derived.Test.YtfeofdeffmnbkaaLHRoom
namespace Go.Proofs.Ytfeofdeffmnbkaa
open Go Go.RowKit

/-- make([]uint64, n): a block of its own, all noughts. -/
theorem wpList_mkW {w : World} {ops : Array Oper} {rest : List Oper} {o : Oper} {a : Act} {Q : Exit → Act → World → Prop}
    (hg : o.guard = none) (l c : Operand) (hop : o.op = Op.makeSlice 28 l c)
    (kl kc : IntKind) (L C : Int) (n : Nat) (hl : a.eval l = .int kl L) (hc : a.eval c = .int kc C) (hL : L = (n : Int)) (hC : C = (n : Int)) (b2 : 8 * n ≤ 281474976710656)
    (hK : ∀ w', RowAt .u64 33 w' w.heap.size n n (fun _ => 0) → Fr (fun _ => False) w w' → wpList Try.prog ops Q rest (a.put o.dst (.slice (some ⟨w.heap.size, 0, none⟩) n n)) w') :
    wpList Try.prog ops Q (o :: rest) a w := by
  obtain ⟨i, hi, hz0, hz1, hz2⟩ := info_parts infoW
  refine wpList_make_full w hg l c 28 hop w.heap.size 33 i (.int .u64 0) 1 Try.underlying28 hi hz0 hz1 kl kc L C n hl hc hL hC (by rw [hz2]; exact b2) (by unfold maxLen; omega) (Nat.le_refl _) ?_
  intro w' hown hgrow
  refine hK w' ?_ ((Fr.refl _ w).grow hgrow (fun k _ e => by cases e))
  have ho : Own .u64 33 w' w.heap.size (.slice (some ⟨w.heap.size, 0, none⟩) n n) n (fun _ => 0) :=
    Own.of_row hown (fun j hj => by
      rw [show (Value.int .u64 0).cells = #[Value.int .u64 0] from rfl, toList_madeCells_one]
      simp [hj])
  rcases ho with ⟨h, _⟩ | ⟨g, cap, h, _, _, hr⟩
  · cases h
  · cases h
    exact hr

/-- The three objects: what is at their places; want: the middle one's fields. -/
structure FI (f : Nat → Nat) (st : Nat → Bool) (t r : Nat) (want : Nat → Nat) : Prop where
  s1 : st 1 = true
  s4 : st 4 = true
  sb : st (5 + t + r) = true
  f1 : f 1 = hOf 3 1 1
  f2 : f 2 = 2
  f4 : f 4 = hOf 9 t r
  fb : f (5 + t + r) = hOf 4 1 1
  fz : f (7 + t + r) = 0
  fw : ∀ k, k < t + r → f (5 + k) = want k

theorem FI.set {f : Nat → Nat} {st : Nat → Bool} {t r : Nat} {want : Nat → Nat} (h : FI f st t r want) {k y : Nat} (hk : k < t + r) : FI (upd f (5 + k) y) st t r (upd want k y) := by
  refine ⟨h.s1, h.s4, h.sb, ?_, ?_, ?_, ?_, ?_, fun j hj => ?_⟩
  · rw [upd_other (by omega)]; exact h.f1
  · rw [upd_other (by omega)]; exact h.f2
  · rw [upd_other (by omega)]; exact h.f4
  · rw [upd_other (by omega)]; exact h.fb
  · rw [upd_other (by omega)]; exact h.fz
  · by_cases e : j = k
    · rw [e, upd_same, upd_same]
    · rw [upd_other e, upd_other (by omega)]; exact h.fw j hj

def want0 (t : Nat) (k : Nat) : Nat := if k < t then 2 else 0
theorem FI.start {t r : Nat} (ht : t < 8) (hr : r < 8) (n3 : Nat) (h3 : n3 = 5 + t + r) :
    FI (laid (laid (laid (fun _ => 0) 1 (hOf 3 1 1)) (1 + 1 + 1 + 1) (hOf 9 t r)) n3 (hOf 4 1 1)) (also (also (also (fun _ => false) 1) (1 + 1 + 1 + 1)) n3) t r (want0 t) := by
  subst h3
  have e1 : hTag (hOf 9 t r) = t := hTag_of (by decide) (by omega)
  refine ⟨?_, ?_, also_new _ _, ?_, ?_, ?_, laid_head _ _ _, ?_, fun k hk => ?_⟩
  · rw [also_old (by omega), also_old (by omega), also_new]
  · rw [also_old (by omega)]; rfl
  · rw [laid_old (by omega), laid_old (by omega), laid_head]
  · rw [laid_old (by omega), laid_old (by omega)]; rfl
  · rw [laid_old (by omega)]; exact laid_head _ _ _
  · have := laid_raw (f := laid (laid (fun _ => 0) 1 (hOf 3 1 1)) (1 + 1 + 1 + 1) (hOf 9 t r)) (n := 5 + t + r) (x := hOf 4 1 1) (i := 0)
    rw [show 7 + t + r = 5 + t + r + 1 + hTag (hOf 4 1 1) + 0 by rw [hTag_of (by decide) (by decide)]; omega]
    exact this
  · rw [laid_old (by omega)]
    unfold want0
    by_cases e : k < t
    · rw [if_pos e]
      have := laid_tag (f := laid (fun _ => 0) 1 (hOf 3 1 1)) (n := 1 + 1 + 1 + 1) (x := hOf 9 t r) (i := k) (by omega)
      rw [show 5 + k = 1 + 1 + 1 + 1 + 1 + k by omega]
      exact this
    · rw [if_neg e]
      have := laid_raw (f := laid (fun _ => 0) 1 (hOf 3 1 1)) (n := 1 + 1 + 1 + 1) (x := hOf 9 t r) (i := k - t)
      rw [e1] at this
      rw [show 5 + k = 1 + 1 + 1 + 1 + 1 + t + (k - t) by omega]
      exact this

theorem Only.fr {g : Nat} {w w' : World} (h : Only g w w') : Fr (fun k => k = g) w w' :=
  ⟨h.os, h.tape, h.output, by rw [h.size]; exact Nat.le_refl _, fun k _ hn => h.block k hn⟩
theorem want0_same (j : Nat) : want0 (j + 1) j = 2 := by simp [want0]
theorem want0_other {j k : Nat} (h : k ≠ j) : want0 (j + 1) k = want0 j k := by
  unfold want0
  by_cases e : k < j
  · rw [if_pos e, if_pos (by omega)]
  · rw [if_neg e, if_neg (by omega)]
theorem RowAt.fr {S : Nat → Prop} {k : IntKind} {E : TypeId} {w w' : World} {g N n : Nat} {f : Nat → Nat} (h : RowAt k E w g N n f) (hf : Fr S w w') (hs : ¬ S g) : RowAt k E w' g N n f := h.block (hf.block g h.lt hs)

set_option maxRecDepth 20000 in
set_option maxHeartbeats 8000000 in
theorem heapFields_walk (x0 x1 : Int) (v2 : Value) (l2 : Nat) (g2 : Nat → Int) (v3 : Value) (l3 : Nat) (g3 : Nat → Int) (w : World) (hs2 : SlI .i64 w v2 l2 g2) (hg2 : ∀ i, i < l2 → -9223372036854775808 ≤ g2 i ∧ g2 i ≤ 9223372036854775807) (hl2 : l2 ≤ 1152921504606846976)
    (hs3 : SlI .u64 w v3 l3 g3) (hg3 : ∀ i, i < l3 → 0 ≤ g3 i ∧ g3 i ≤ 18446744073709551615) (_hl3 : l3 ≤ 1152921504606846976) (h01 : -9223372036854775808 ≤ x0) (h02 : x0 ≤ 9223372036854775807) (h11 : -9223372036854775808 ≤ x1) (h12 : x1 ≤ 9223372036854775807) :
    Calls Try.prog 8 #[.int .i64 x0, .int .i64 x1, v2, v3] w fun e w' => e = .returned (.bool true) ∧ Below w.heap.size w w' := by
  obtain ⟨ao2, cap2, rfl, hc21, hc22, hrd2⟩ := hs2
  obtain ⟨ao3, cap3, rfl, hc31, hc32, hrd3⟩ := hs3
  have HG2 := hide hg2
  have HR2 := hide hrd2
  have HG3 := hide hg3
  have HR3 := hide hrd3
  clear hg2 hrd2 hg3 hrd3
  have K0 := place_any x0 8 w (by decide) (by decide) h01 h02
  have K1 := place_any x1 8 w (by decide) (by decide) h11 h12
  obtain ⟨t, ht, htI⟩ : ∃ t : Nat, t < 8 ∧ (x0 % ((8 : Nat) : Int)).toNat = t := ⟨_, by omega, rfl⟩
  obtain ⟨r, hr, hrI⟩ : ∃ r : Nat, r < 8 ∧ (x1 % ((8 : Nat) : Int)).toNat = r := ⟨_, by omega, rfl⟩
  rw [htI] at K0
  rw [hrI] at K1
  clear htI hrI
  obtain ⟨c, hcc⟩ : ∃ c : Nat, c = 4 * (1 + 1 + 1 + 1 + 1 + t + r) := ⟨_, rfl⟩
  have HC := hide hcc
  clear hcc
  go_enter Try.func8, Try.ntmps8
  go_wp2_with (first
    | (go_at_call 22; refine K0.mono ?_; rintro e w1 ⟨rfl, hw⟩; replace hw := hw.symm; subst hw; clear K0)
    | (go_at_call 22; refine K1.mono ?_; rintro e w1 ⟨rfl, hw⟩; replace hw := hw.symm; subst hw; clear K1)
    | (go_at_call 23; refine (new_ok 60 _ (by decide) (by decide)).mono ?_; rintro e w1 ⟨rfl, X1, H1, L1, F1⟩)
    | (go_at_call 24; have KA := alloc_yes w3 _ X3 60 0 (1 + 1 + 1 + 1 + 1 + t + r) _ _ 4 1 1 H3 (by decide) (by decide) (by decide) (by decide) (by omega); rw [← HC.out] at KA; refine KA.mono ?_; rintro e w4 ⟨rfl, X4, H4, G4, F4⟩; clear KA; obtain ⟨f, st, n, HH, HI⟩ : ∃ f st n, Hid (HeapAt w4 w.heap.size X4 60 0 n f st) ∧ Hid (FI f st t r (want0 t)) := ⟨_, _, _, hide H4, hide (FI.start ht hr _ (by omega))⟩; clear H4)
    | (go_at_call 24; refine (alloc_yes w2 _ X2 60 0 (1 + 1 + 1 + 1) _ _ 9 t r H2 (by decide) (by decide) (by omega) (by omega) (by omega)).mono ?_; rintro e w3 ⟨rfl, X3, H3, G3, F3⟩; clear H2)
    | (go_at_call 24; refine (alloc_yes w1 _ X1 60 0 1 _ _ 3 1 1 H1 (by decide) (by decide) (by decide) (by decide) (by decide)).mono ?_; rintro e w2 ⟨rfl, X2, H2, G2, F2⟩; clear H1)
    | (at_make; refine wpList_mkW rfl _ _ rfl .i64 .i64 _ _ (t + r) rfl rfl (by omega) (by omega) (by omega) ?_; intro w5 R5 F5))
  have L2 := G2.ge L1 F1.size
  have FB2 := F1.some.on (F2.from L1)
  have L3 := G3.ge L2 FB2.size
  have FB3 := FB2.on (F3.from L2)
  have L4 := hide (G4.ge L3 FB3.size)
  have FB4 := FB3.on (F4.from L3)
  have hgW := FB4.size
  have FB5 := hide (FB4.on F5.some)
  have HX := hide (fun k hk => HH.out.lt (k := k) hk)
  have HH5 := hide (HH.out.fr F5 (fun _ _ e => e))
  clear L1 L2 L3 FB2 FB3 FB4 F1 F2 F3 F4 F5 G2 G3 G4 HH H3
  generalize w4.heap.size = gW at *
  go_loopw [20] (fun a wr => ∃ (j : Nat) (wf : Nat → Nat), j ≤ t ∧ a = .int .i64 j ∧ RowAt .u64 33 wr gW (t + r) (t + r) wf ∧ (∀ k, k < t + r → wf k = want0 j k) ∧ Only gW w5 wr) (fun a _ => t - (intOf a).toNat)
  case atStart => exact ⟨0, _, Nat.zero_le _, rfl, R5, fun k _ => by simp [want0], Only.refl _ _⟩
  case round =>
    obtain ⟨j, wf, hj, rfl, hR, hwf, hO⟩ := hrel
    clear R5
    by_cases hlt : j < t
    · have hcl := hR.cell (i := j) (by omega)
      have hfz := hR.free j
      have HR := hide (hR.set (i := j) (by omega) 2)
      have HO := hide hO
      have HW := hide hwf
      clear hR hO hwf
      go_wp2
      go_roundw
      case rel => exact ⟨j + 1, _, by omega, by go_num, HR.out, fun k hk => by
        by_cases e : k = j
        · rw [e, upd_same, want0_same]
        · rw [upd_other e, want0_other e]; exact HW.out k hk, HO.out.setCell _ _⟩
      case measure => simp [intOf]; omega
    · have hjt : t = j := by omega
      subst hjt
      have HH6 := hide (HH5.out.fr hO.fr (fun k hk e => by have := HX.out k hk; omega))
      have FB6 := hide (FB5.out.on (hO.fr.from (B := w.heap.size) (fun k e => by omega)))
      have RW := hide (hR.congr hwf)
      clear hR hwf hO HH5 FB5 hlt
      go_wp2
      go_loopw [21] (fun a wr => ∃ (j n : Nat) (f want : Nat → Nat), j ≤ l2 ∧ a = .int .i64 j ∧ HeapAt wr w.heap.size X4 60 0 n f st ∧ FI f st t r want ∧ RowAt .u64 33 wr gW (t + r) (t + r) want ∧ Fr (fun k => w.heap.size ≤ k) w wr) (fun a _ => l2 - (intOf a).toNat)
      case atStart => exact ⟨0, _, _, _, Nat.zero_le _, rfl, HH6.out, HI.out, RW.out, FB6.out⟩
      case round =>
        clear HH6 HI RW FB6 n f
        obtain ⟨j, n, f, want, hj, rfl, hH, hI, hR, hF⟩ := hrel
        by_cases hgo : j < l2 ∧ 0 < t + r
        · obtain ⟨hlt, htr⟩ := hgo
          obtain ⟨gl, gh⟩ := HG2.out j hlt
          obtain ⟨b, off, rfl, hcs⟩ : ∃ b off, ao2 = some ⟨b, off, none⟩ ∧ ∀ i, i < l2 → w.cell? ⟨b, off + i, none⟩ = some (.int .i64 (g2 i)) := by
            rcases HR2.out with h0 | h0
            · omega
            · exact h0
          have hb0 : b < w.heap.size := World.block_lt_of_cell? w _ (hcs j hlt)
          have hcell := (hF.cell (o := off + j) hb0 (fun e => by omega)).trans (hcs j hlt)
          have KP := place_any (g2 j) (t + r) wr (by omega) (by omega) gl gh
          obtain ⟨k, hk, hkI⟩ : ∃ k : Nat, k < t + r ∧ (g2 j % ((t + r : Nat) : Int)).toNat = k := by
            have h1 := Int.emod_nonneg (g2 j) (b := ((t + r : Nat) : Int)) (by omega)
            have h2 := Int.emod_lt_of_pos (g2 j) (b := ((t + r : Nat) : Int)) (by omega)
            exact ⟨_, by omega, rfl⟩
          rw [hkI, show ((t + r : Nat) : Int) = (t : Int) + (r : Int) by omega] at KP
          clear hkI hcs
          generalize g2 j = y2 at *
          obtain ⟨y, hy1, hyI⟩ : ∃ y : Nat, y % 4 = 1 ∧ 4 * (j : Int) + 1 = (y : Int) := ⟨4 * j + 1, by omega, by omega⟩
          have hyl : Hid (y < 18446744073709551616) := hide (by omega)
          have hp16 : isPtr st 16 = true := by
            unfold isPtr
            rw [show 16 / 4 = 4 from rfl, hI.s4]
            rfl
          have ef4 : f (16 / 4) = hOf 9 t r := hI.f4
          have hnX : ¬ X4 gW := fun e => by have := HX.out gW e; omega
          by_cases hkt : k < t
          · have KS := set_yes wr _ X4 60 0 n f st 16 k y hH (by decide) hyl.out hp16 (by rw [ef4, hTag_of (by decide) (by omega)]; exact hkt) (by simp [may, hy1])
            rw [show 16 / 4 + 1 + k = 5 + k by omega] at KS
            have hkI : (k : Int) < (t : Int) := by omega
            by_cases hj3 : j < l3
            all_goals
              go_wp2_with (first
              | (go_at_call 22; refine KP.mono ?_; rintro e w1 ⟨rfl, hw⟩; replace hw := hw.symm; subst hw)
              | (go_at_call 30; refine KS.mono ?_; rintro e w6 ⟨rfl, H6, F6⟩; have R6 := hR.fr F6 hnX; have hcl6 := R6.cell hk; have hfz6 := R6.free k; have HH6 := hide H6; have HF6 := hide F6; have HR6 := hide R6; clear H6 F6 R6))
              refine ⟨⟨j + 1, n, _, _, by omega, by go_num, (HH6.out.fr (S := fun k => k = gW) (Fr.setCell (S := fun k => k = gW) (Fr.refl _ _) (fun _ => rfl) _ _) (fun k hk2 e => hnX (by rw [← e]; exact hk2))), hI.set (k := k) (y := y) hk, HR6.out.set hk _, (hF.on (HF6.out.from L4.out)).setCell (fun _ => hgW) _ _⟩, ?_⟩
              simp [intOf]
              omega
          · obtain ⟨d, hdI⟩ : ∃ d : Nat, (k : Int) - (t : Int) = (d : Int) := ⟨k - t, by omega⟩
            have hkI : (t : Int) ≤ (k : Int) := by omega
            have hd : d < hRaw (f (16 / 4)) := by rw [ef4, hRaw_of (by decide) (by omega) (by omega)]; omega
            have hk5 : 16 / 4 + 1 + hTag (f (16 / 4)) + d = 5 + k := by rw [ef4, hTag_of (by decide) (by omega)]; omega
            by_cases hj3 : j < l3
            · obtain ⟨yl, yh⟩ := HG3.out j hj3
              obtain ⟨b3, off3, rfl, hcs3⟩ : ∃ b off, ao3 = some ⟨b, off, none⟩ ∧ ∀ i, i < l3 → w.cell? ⟨b, off + i, none⟩ = some (.int .u64 (g3 i)) := by
                rcases HR3.out with h0 | h0
                · omega
                · exact h0
              have hb3 : b3 < w.heap.size := World.block_lt_of_cell? w _ (hcs3 j hj3)
              have hcell3 := (hF.cell (o := off3 + j) hb3 (fun e => by omega)).trans (hcs3 j hj3)
              obtain ⟨y3, hy3I⟩ : ∃ y3 : Nat, g3 j = (y3 : Int) := ⟨(g3 j).toNat, by omega⟩
              have hyl3 : Hid (y3 < 18446744073709551616) := hide (by omega)
              rw [hy3I] at hcell3
              clear yl yh hcs3 hy3I
              have KS := setRaw_yes wr _ X4 60 0 n f st 16 d y3 hH (by decide) hyl3.out hp16 hd
              rw [hk5] at KS
              clear hk5 hd
              go_wp2_with (first
              | (go_at_call 22; refine KP.mono ?_; rintro e w1 ⟨rfl, hw⟩; replace hw := hw.symm; subst hw)
              | (go_at_call 31; refine KS.mono ?_; rintro e w6 ⟨rfl, H6, F6⟩; have R6 := hR.fr F6 hnX; have hcl6 := R6.cell hk; have hfz6 := R6.free k; have HH6 := hide H6; have HF6 := hide F6; have HR6 := hide R6; clear H6 F6 R6))
              refine ⟨⟨j + 1, n, _, _, by omega, by go_num, (HH6.out.fr (S := fun k => k = gW) (Fr.setCell (S := fun k => k = gW) (Fr.refl _ _) (fun _ => rfl) _ _) (fun k hk2 e => hnX (by rw [← e]; exact hk2))), hI.set (k := k) (y := y3) hk, HR6.out.set hk _, (hF.on (HF6.out.from L4.out)).setCell (fun _ => hgW) _ _⟩, ?_⟩
              simp [intOf]
              omega
            · have KS := setRaw_yes wr _ X4 60 0 n f st 16 d y hH (by decide) hyl.out hp16 hd
              rw [hk5] at KS
              clear hk5 hd
              go_wp2_with (first
              | (go_at_call 22; refine KP.mono ?_; rintro e w1 ⟨rfl, hw⟩; replace hw := hw.symm; subst hw)
              | (go_at_call 31; refine KS.mono ?_; rintro e w6 ⟨rfl, H6, F6⟩; have R6 := hR.fr F6 hnX; have hcl6 := R6.cell hk; have hfz6 := R6.free k; have HH6 := hide H6; have HF6 := hide F6; have HR6 := hide R6; clear H6 F6 R6))
              refine ⟨⟨j + 1, n, _, _, by omega, by go_num, (HH6.out.fr (S := fun k => k = gW) (Fr.setCell (S := fun k => k = gW) (Fr.refl _ _) (fun _ => rfl) _ _) (fun k hk2 e => hnX (by rw [← e]; exact hk2))), hI.set (k := k) (y := y) hk, HR6.out.set hk _, (hF.on (HF6.out.from L4.out)).setCell (fun _ => hgW) _ _⟩, ?_⟩
              simp [intOf]
              omega
        · have hx : (l2 : Int) ≤ (j : Int) ∨ ((j : Int) < (l2 : Int) ∧ (t : Int) + (r : Int) = 0) := by omega
          have HH7 := hide hH
          have HI7 := hide hI
          have HR7 := hide hR
          have HF7 := hide hF
          clear hgo hH hI hR hF
          rcases hx with hx | ⟨hx, hx0⟩
          all_goals
            go_wp2
            go_loopw [24] (fun a wr => ∃ (j n : Nat) (f want : Nat → Nat), j ≤ t + r ∧ a = .int .i64 j ∧ HeapAt wr w.heap.size X4 60 0 n f st ∧ FI f st t r want ∧ RowAt .u64 33 wr gW (t + r) (t + r) want ∧ Fr (fun k => w.heap.size ≤ k) w wr) (fun a _ => t + r - (intOf a).toNat)
            case atStart => exact ⟨0, _, _, _, Nat.zero_le _, rfl, HH7.out, HI7.out, HR7.out, HF7.out⟩
            case round =>
              clear HH7 HI7 HR7 HF7 hx hj n f want
              obtain ⟨j, n, f, want, hj, rfl, hH, hI, hR, hF⟩ := hrel
              have hp16 : isPtr st 16 = true := by
                unfold isPtr
                rw [show 16 / 4 = 4 from rfl, hI.s4]
                rfl
              have ef4 : f (16 / 4) = hOf 9 t r := hI.f4
              by_cases hlt : j < t + r
              · have hcl := hR.cell hlt
                have hfw := hI.fw j hlt
                have hjI : (j : Int) < (t : Int) + (r : Int) := by omega
                by_cases hjt : j < t
                · have KG := geth_in wr _ X4 60 0 n f st 16 j hH (by decide) hp16 (by rw [ef4, hTag_of (by decide) (by omega)]; exact hjt)
                  rw [show 16 / 4 + 1 + j = 5 + j by omega, hfw] at KG
                  have HK := hide hH
                  clear hfw ef4
                  go_wp2_with (go_at_call 32; refine KG.mono ?_; rintro e w8 ⟨rfl, q8, rfl⟩)
                  all_goals
                    refine ⟨⟨j + 1, n, f, want, by omega, by go_num, HK.out.drewN _, hI, hR, hF.drewN _⟩, ?_⟩
                    simp [intOf]
                    omega
                · obtain ⟨d, hdI⟩ : ∃ d : Nat, (j : Int) - (t : Int) = (d : Int) := ⟨j - t, by omega⟩
                  have KG := rawh_in wr _ X4 60 0 n f st 16 d hH (by decide) hp16 (by rw [ef4, hRaw_of (by decide) (by omega) (by omega)]; omega)
                  rw [show 16 / 4 + 1 + hTag (f (16 / 4)) + d = 5 + j by rw [ef4, hTag_of (by decide) (by omega)]; omega, hfw] at KG
                  have HK := hide hH
                  clear hfw ef4
                  go_wp2_with (go_at_call 33; refine KG.mono ?_; rintro e w8 ⟨rfl, q8, rfl⟩)
                  all_goals
                    refine ⟨⟨j + 1, n, f, want, by omega, by go_num, HK.out.drewN _, hI, hR, hF.drewN _⟩, ?_⟩
                    simp [intOf]
                    omega
              · have hcl : Hid (c < 18446744073709551616) := hide (by have := HC.out; omega)
                have c4 : c / 4 = 5 + t + r := by have := HC.out; omega
                have hpc : isPtr st c = true := by
                  unfold isPtr
                  rw [c4, hI.sb]
                  simp
                  have := HC.out
                  omega
                have hp4 : isPtr st 4 = true := by
                  unfold isPtr
                  rw [show 4 / 4 = 1 from rfl, hI.s1]
                  rfl
                have KG := geth_in wr _ X4 60 0 n f st 4 0 hH (by decide) hp4 (by rw [show 4 / 4 = 1 from rfl, hI.f1]; decide)
                rw [show 4 / 4 + 1 + 0 = 2 from rfl, hI.f2] at KG
                have KR := fun q => rawh_in (wr.drewN q) _ X4 60 0 n f st c 0 (hH.drewN q) hcl.out hpc (by rw [c4, hI.fb]; decide)
                rw [c4, hI.fb, show hTag (hOf 4 1 1) = 1 from rfl, show 5 + t + r + 1 + 1 + 0 = 7 + t + r by omega, hI.fz] at KR
                have KK := fun q => heapKind_any (wr.drewN q) _ X4 60 0 n f st c (hH.drewN q) hcl.out
                rw [headOf_yes hpc, c4, hI.fb, show hKind (hOf 4 1 1) = 4 from rfl] at KK
                clear c4 hpc hp4 hp16 ef4
                go_wp2_with (first
                  | (go_at_call 32; refine KG.mono ?_; rintro e w8 ⟨rfl, q8, rfl⟩)
                  | (go_at_call 33; refine (KR _).mono ?_; rintro e w9 ⟨rfl, q9, rfl⟩)
                  | (go_at_call 27; refine (KK _).mono ?_; rintro e w10 ⟨rfl, q10, rfl⟩)
                  | (go_at_call 12; refine (awake_any _).mono ?_; rintro e w11 ⟨rfl, F11⟩))
                go_ret
                exact ⟨rfl, (((hF.drewN _).on F11.some)).none.below (Nat.le_refl _) (fun _ _ e => e)⟩

end Go.Proofs.Ytfeofdeffmnbkaa
