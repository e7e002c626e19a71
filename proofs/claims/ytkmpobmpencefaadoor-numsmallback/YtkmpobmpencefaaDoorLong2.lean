/-
  What is proved here: nat.divideLong answers quotient and rest of two numbers, the divisor of two limbs or more.
-/
import Derived.Test.YtkmpobmpencefaaDoorLong
namespace Go.Proofs.YtkmpobmpencefaaDoor
open Go Go.RowKit

theorem Only.row {k : IntKind} {E : TypeId} {w w' : World} {g g2 N n : Nat} {f : Nat → Nat} (h : RowAt k E w g2 N n f) (o : Only g w w') (hne : g2 ≠ g) : RowAt k E w' g2 N n f := h.block (o.block g2 hne)
theorem RowAt.set_other {k : IntKind} {E : TypeId} {w : World} {g g2 N n i : Nat} {f : Nat → Nat} {u : Value} (h : RowAt k E w g2 N n f) (hne : g2 ≠ g) : RowAt k E (w.setCell ⟨g, i, none⟩ u) g2 N n f := h.block (heap_setCell_other _ _ _ _ hne)

set_option maxRecDepth 4000 in
set_option maxHeartbeats 4000000 in
theorem divideLong_any (ao bo : Option Addr) (la n m capa capb : Nat) (f h : Nat → Nat) (w : World) (ha : Rd .u32 w ao la f) (hb : Rd .u32 w bo n h) (hm : n + m = la + 1) (hm1 : 1 ≤ m) (hn : 2 ≤ n) (hla : 4 * (la + 1) ≤ 281474976710656)
    (hf : ∀ i, i < la → f i < 4294967296) (hh : ∀ i, i < n → h i < 4294967296) (htop : h (n - 1) ≠ 0) :
    Calls Tryd.prog 105 #[.slice ao la capa, .slice bo n capb] w fun e w' => Hid (∃ (g3 g4 : Nat) (qf rf : Nat → Nat), e = .returned (.tuple #[.slice (some ⟨g3, 0, none⟩) m m, .slice (some ⟨g4, 0, none⟩) n n]) ∧ w.heap.size ≤ g3 ∧ w.heap.size ≤ g4 ∧ g3 ≠ g4 ∧
      RowAt .u32 64 w' g3 m m qf ∧ RowAt .u32 64 w' g4 n n rf ∧ Below w.heap.size w w' ∧ (∀ i, i < m → qf i < 4294967296) ∧ (∀ i, i < n → rf i < 4294967296) ∧
      num 4294967296 qf m = num 4294967296 f la / num 4294967296 h n ∧ num 4294967296 rf n = num 4294967296 f la % num 4294967296 h n) := by
  have hxl := hh (n - 1) (by omega)
  obtain ⟨t1, t2, t3, t4⟩ := top_shift hxl htop
  obtain ⟨s, hse⟩ : ∃ s, s = 32 - bitLen (h (n - 1)) := ⟨_, rfl⟩
  have hs : s < 32 := by omega
  rw [← hse] at t3 t4
  rcases id hb with hb0 | ⟨b2, off2, eb, hcb⟩
  · omega
  subst eb
  have hcx := hcb (n - 1) (by omega)
  have HLZ := hide (fun (w' : World) => leading_any (h (n - 1)) w' hxl htop)
  rw [← hse] at HLZ
  have hA := num_lt hf
  have HST := hide (long_start (h := h) hm (by omega) hA rfl htop (Nat.two_pow_pos s))
  have HTOP := hide (fun (df : Nat → Nat) (r : ShlRel h (2 ^ s) n df) => shl_top hs r (by omega) hh rfl t4 t3)
  clear hse t1 t2 t3 t4 hA hcb
  generalize h (n - 1) = x at hcx HLZ hxl
  go_enter Tryd.func105, Tryd.ntmps105
  go_wp2_with fail
  refine (unhide HLZ _).mono ?_
  rintro e w0 ⟨rfl, rfl⟩
  clear HLZ hcx
  go_wp2_with fail
  refine (shiftLeft_any _ la _ s f _ ha hf hla hs (by omega)).mono ?_
  rintro e w1 ⟨rf0, rfl, hr1, hb1, hsh1⟩
  have hsz1 := hb1.size
  have hlt1 := hr1.lt
  go_wp2_with fail
  refine (shiftLeft_any _ n _ s h _ (hb.below hb1 (Nat.le_refl _)) hh (by omega) hs (by omega)).mono ?_
  rintro e w2 ⟨df, rfl, hr2, hb2, hsh2⟩
  have hsz2 := hb2.size
  have hlt2 := hr2.lt
  obtain ⟨d0, d1, d2, d3⟩ := unhide HTOP df hsh2
  have hdd := hsh2.2.2.1
  have hd1 := hsh1.1
  have hdd1 := hsh1.2.2.1
  have HD1 := hide d1
  have HD2 := hide d2
  have HD3 := hide d3
  have HH1 := hide hd1
  clear hsh1 hsh2 HTOP d0 d1 d2 d3 hd1
  go_wp2_with (at_make; refine wpList_mkU rfl _ _ rfl .i64 .i64 _ _ m rfl rfl (by omega) (by omega) (by omega) ?_; intro w3 hr3 hb3)
  have R1 := (hr1.block (hb2.block _ hlt1)).block (hb3.block _ (by omega))
  have R2 := hr2.block (hb3.block _ hlt2)
  have hsz3 := hb3.size
  have B3 : Below w0.heap.size w0 w3 := (hb1.trans (hb2.mono (by omega))).trans (hb3.mono (by omega))
  have n12 : w0.heap.size ≠ w1.heap.size := by omega
  have n13 : w0.heap.size ≠ w2.heap.size := by omega
  have n23 : w1.heap.size ≠ w2.heap.size := by omega
  have l2 : w0.heap.size ≤ w1.heap.size := hsz1
  have l3 : w0.heap.size ≤ w2.heap.size := by omega
  clear hr1 hr2 hb1 hb2 hb3 hlt1 hlt2 hsz2
  generalize hG1 : w0.heap.size = g1 at *
  generalize hG2 : w1.heap.size = g2 at *
  generalize hG3 : w2.heap.size = g3 at *
  have hdd' : ∀ i, i < n → df i < 4294967296 := fun i hi => hdd i (by omega)
  have HDP : Hid (num 4294967296 df n < 4294967296 ^ n) := hide (by rw [unhide HD1]; exact unhide HD2)
  have HSTART : Hid (LongRel (num 4294967296 f la * 2 ^ s) (num 4294967296 df n) n m m (fun _ => 0) rf0) := hide (by
    refine ⟨?_, ?_, fun i hi => hdd1 i (by omega), fun i h1 h2 => by omega⟩
    · rw [hm, unhide HH1, unhide HD1]; exact unhide HST
    · rw [hm, unhide HH1]; simp [num])
  have hDpos : 0 < num 4294967296 df n := by
    have := num_ge (B := 4294967296) (f := df) (n := n) (by omega) (by have := unhide HD3; omega)
    have : 0 < 4294967296 ^ (n - 1) := Nat.pos_of_ne_zero (by simp)
    omega
  have HG1 := hide hG1
  clear hdd1 HST HH1 hG1 hG2 hG3
  go_loopw [10] (fun t10 wr => ∃ (j : Nat) (qf rf : Nat → Nat), j ≤ m ∧ t10 = .int .i64 ((j : Int) - 1) ∧ RowAt .u32 64 wr g1 (la + 1) (la + 1) rf ∧ RowAt .u32 64 wr g2 (n + 1) (n + 1) df ∧ RowAt .u32 64 wr g3 m m qf ∧ Below g1 w0 wr ∧ LongRel (num 4294967296 f la * 2 ^ s) (num 4294967296 df n) n m j qf rf) (fun t10 _ => (intOf t10 + 1).toNat)
  case atStart => exact ⟨m, fun _ => 0, rf0, Nat.le_refl _, rfl, R1, R2, hr3, B3, unhide HSTART⟩
  case round =>
    obtain ⟨j, qf, rf, hj, rfl, r1, r2, r3, hbel, hrl⟩ := hrel
    clear R1 R2 hr3 B3 HSTART
    by_cases hj0 : j = 0
    · subst hj0
      obtain ⟨z1, z2⟩ := hrl.done (unhide HDP)
      have HZ1 := hide z1
      have HZ2 := hide z2
      have hrd := hrl.2.2.1
      have hqd := hrl.2.2.2
      clear z1 z2 hrl
      go_wp2_with fail
      refine (shiftRight_any _ n _ s rf _ ((r1.mono (by omega)).rd) (fun i hi => hrd i (by omega)) (by omega) hs (by omega)).mono ?_
      rintro e w5 ⟨f5, rfl, r5, b5, hsr⟩
      have hlt3 := r3.lt
      have r3' := r3.block (b5.block _ hlt3)
      have hsz5 := hbel.size
      have hlt1 := r1.lt
      have HSR := hide hsr
      have B5 : Below g1 w0 w5 := hbel.trans (b5.mono (by omega))
      have ne5 : g3 ≠ wr.heap.size := by omega
      clear hsr hbel r1 r2 r3
      go_wp2_with fail
      go_ret2
      refine hide ⟨g3, wr.heap.size, qf, f5, rfl, by rw [unhide HG1]; omega, by rw [unhide HG1]; omega, ne5, r3', r5, by rw [unhide HG1]; exact B5, fun i hi => hqd i (by omega) hi, (unhide HSR).2, ?_⟩
      have hE := long_end (A := num 4294967296 f la) (Bv := num 4294967296 h n) (Q := num 4294967296 qf m) (V := num 4294967296 rf n) (R := num 4294967296 f5 n) (Nat.two_pow_pos s) (e := cut rf n 0 % 2 ^ s) (by rw [← unhide HD1]; exact unhide HZ2) (by rw [← unhide HD1]; exact unhide HZ1)
        (by rw [(unhide HSR).1, cut_out (Nat.le_refl _), Nat.zero_mod, Nat.zero_mul, Nat.add_zero]; exact num_congr (fun i hi => cut_in hi)) (Nat.mod_lt _ (Nat.two_pow_pos s))
      exact hE
    · obtain ⟨i, rfl⟩ : ∃ i, j = i + 1 := ⟨j - 1, by omega⟩
      obtain ⟨p1, p2, p3⟩ := hrl.parts (by omega) (unhide HDP)
      have hrd := hrl.2.2.1
      have HRL := hide hrl
      have hpart : ∀ k, k < n + 1 → rf (i + k) < 4294967296 := fun k hk => hrd (i + k) (by omega)
      have rd2 : Rd .u32 wr (some ⟨g2, 0, none⟩) n df := (r2.mono (by omega)).rd
      clear hrl p2 p3 hrd
      rw [show (((i + 1 : Nat) : Int) - 1) = (i : Int) from by omega]
      go_wp2_with fail
      rw [show i + n + 1 - i = n + 1 from by omega]
      refine (guess_part g1 i (la + 1) (la + 1) g2 n _ _ rf df _ r1 (by omega) rd2 hn (by omega) hpart hdd' (unhide HD3) p1).mono ?_
      rintro e w4 ⟨gg, rfl, st, gl, gq1, gq2⟩
      have r1' := r1.still st
      have r2' := r2.still st
      have r3' := r3.still st
      have rd2' : Rd .u32 w4 (some ⟨g2, 0, none⟩) n df := (r2'.mono (by omega)).rd
      have hbel' := Still.below hbel st
      have HU1 := hide (Nat.div_mul_le_self (num 4294967296 (fun k => rf (i + k)) (n + 1)) (num 4294967296 df n))
      have HU2 : Hid (num 4294967296 (fun k => rf (i + k)) (n + 1) < (num 4294967296 (fun k => rf (i + k)) (n + 1) / num 4294967296 df n + 1) * num 4294967296 df n) := hide (by
        have := Nat.lt_div_mul_add (a := num 4294967296 (fun k => rf (i + k)) (n + 1)) hDpos
        rw [Nat.add_mul, Nat.one_mul]
        exact this)
      have HQB : Hid (num 4294967296 (fun k => rf (i + k)) (n + 1) / num 4294967296 df n < 4294967296) := hide (by
        rw [Nat.div_lt_iff_lt_mul hDpos, Nat.mul_comm]; exact p1)
      clear r1 r2 r3 rd2 hbel st p1
      go_wp2_with fail
      refine (takeTimes_any g1 i (la + 1) (la + 1) n _ _ gg rf df _ _ r1' (by omega) rd2' (fun a e _ => by cases e; exact n12.symm) (by omega) gl hpart hdd' (by omega)).mono ?_
      rintro e w5 ⟨bb, f5, rfl, hbb, r15, o5, ho5, hd5, hn5⟩
      have r25 := Only.row r2' o5 n12.symm
      have r35 := Only.row r3' o5 n13.symm
      have B5 := Only.below hbel' o5 (Nat.le_refl _)
      have HN5 := hide hn5
      have HO5 := hide ho5
      clear r1' r2' r3' rd2' hbel' o5 hn5 ho5
      by_cases hb0 : bb = 0
      · subst hb0
        have hv : num 4294967296 (fun k => f5 (i + k)) (n + 1) + gg * num 4294967296 df n = num 4294967296 (fun k => rf (i + k)) (n + 1) := by have := unhide HN5; omega
        obtain ⟨e1, e2⟩ := guess_right (unhide HU1) (unhide HU2) gq1 gq2 hv
        have HST := hide ((unhide HRL).step (q := gg) (U' := num 4294967296 (fun k => f5 (i + k)) (n + 1)) (by omega) (unhide HDP) gl (unhide HO5) hd5 rfl hv e2)
        have hfr := r35.free i
        have hcq := r35.cell (i := i) (by omega)
        have HR3 := hide (r35.set (i := i) (by omega) gg)
        have HR1 := hide (RowAt.set_other (i := i) (u := .int .u32 gg) r15 n13)
        have HR2 := hide (RowAt.set_other (i := i) (u := .int .u32 gg) r25 n23)
        have HB := hide (B5.setCell (p := ⟨g3, i, none⟩) (show g1 ≤ g3 by omega) (.int .u32 gg))
        clear hv e1 e2 r15 r25 r35 B5 hpart hd5
        go_wp2_with fail
        go_roundw
        case rel => exact ⟨i, _, f5, by omega, by go_num, unhide HR1, unhide HR2, unhide HR3, unhide HB, unhide HST⟩
        case measure => simp [intOf]
      · obtain rfl : bb = 1 := by omega
        have hg1 := guess_over (V := num 4294967296 (fun k => f5 (i + k)) (n + 1)) (N := 4294967296 ^ (n + 1)) (unhide HU1) gq1 gq2 (by have := unhide HN5; omega) (num_lt hd5)
        have hgp : 1 ≤ gg := by rw [hg1]; exact Nat.le_add_left 1 _
        have HG := hide hg1
        clear hg1
        have rd25 : Rd .u32 w5 (some ⟨g2, 0, none⟩) n df := (r25.mono (by omega)).rd
        go_wp2_with fail
        refine (addInto_any g1 i (la + 1) (la + 1) (n + 1) n _ _ f5 df _ _ r15 (by omega) rd25 (fun a e _ => by cases e; exact n12.symm) (by omega) (by omega) hd5 hdd').mono ?_
        rintro e w6 ⟨f6, c6, rfl, r16, o6, hrel6⟩
        obtain ⟨q1, q2, q3, q4⟩ := hrel6
        rw [num_cut (by omega)] at q4
        have hlt6 := num_lt q3
        have hDN : num 4294967296 df n ≤ 4294967296 ^ (n + 1) := Nat.le_trans (Nat.le_of_lt (unhide HDP)) (Nat.pow_le_pow_right (by decide) (by omega))
        obtain ⟨e1, e2⟩ := guess_back (unhide HU1) (unhide HU2) hDN (by have := unhide HN5; rw [← unhide HG]; omega) q4 q1 hlt6
        have HST := hide ((unhide HRL).step (q := gg - 1) (f' := f6) (U' := num 4294967296 (fun k => f6 (i + k)) (n + 1)) (by omega) (unhide HDP) (by omega) (fun k hk => by rw [q2 k hk]; exact unhide HO5 k hk) q3 rfl (by rw [show gg - 1 = num 4294967296 (fun k => rf (i + k)) (n + 1) / num 4294967296 df n from by rw [unhide HG, Nat.add_sub_cancel]]; exact e1) e2)
        have r26 := Only.row r25 o6 n12.symm
        have r36 := Only.row r35 o6 n13.symm
        have B6 := Only.below B5 o6 (Nat.le_refl _)
        have hfr := r36.free i
        have hcq := r36.cell (i := i) (by omega)
        have HR3 := hide (r36.set (i := i) (by omega) (gg - 1))
        have HR1 := hide (RowAt.set_other (i := i) (u := .int .u32 (gg - 1 : Nat)) r16 n13)
        have HR2 := hide (RowAt.set_other (i := i) (u := .int .u32 (gg - 1 : Nat)) r26 n23)
        have HB := hide (B6.setCell (p := ⟨g3, i, none⟩) (show g1 ≤ g3 by omega) (.int .u32 (gg - 1 : Nat)))
        have HGG := hide (show ((gg : Int) - 1) = ((gg - 1 : Nat) : Int) by omega)
        clear e1 e2 r15 r25 r35 B5 hpart hd5 q2 q3 q4 hlt6 hDN r16 r26 r36 B6 o6 rd25
        go_wp2_with fail
        go_roundw
        case rel =>
          rw [unhide HGG]
          exact ⟨i, _, f6, by omega, by go_num, unhide HR1, unhide HR2, unhide HR3, unhide HB, unhide HST⟩
        case measure => simp [intOf]

end Go.Proofs.YtkmpobmpencefaaDoor
