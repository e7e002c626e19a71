/-
  What is proved here: tandemlaw01.NatKept answers true, whatever lists of at most 1048576 limbs together it is handed, and turns nothing that was there.
-/
import Derived.Test.YtpagphcioeefdaaDoorKept1
import Derived.Test.YtpagphcioeefdaaDoorLSums
import Derived.Test.YtpagphcioeefdaaDoorDiv
namespace Go.Proofs.YtpagphcioeefdaaDoor
open Go Go.RowKit

theorem div_kept (v u : Value) (n m : Nat) (f h : Nat → Nat) (w : World) (hv : Sl .u32 w v n f) (hu : Sl .u32 w u m h) (hf : ∀ i, i < n → f i < 4294967296) (hh : ∀ i, i < m → h i < 4294967296) (hn : 4 * (n + 1) ≤ 281474976710656) :
    Calls Tryd.prog 25 #[v, u] w fun e w' => ∃ (vq vr vo : Value) (nq nr : Nat) (fq fr : Nat → Nat), e = .returned (.tuple #[vq, vr, vo]) ∧ Apart vq vr ∧ Own .u32 41 w' w.heap.size vq nq fq ∧ Own .u32 41 w' w.heap.size vr nr fr ∧ Up w w' ∧ nq ≤ n + 1 ∧ nr ≤ m := by
  rcases Nat.eq_zero_or_pos (num 4294967296 h m) with hz | hz
  · refine (div_zero v u n m f h w hv hu hz).mono ?_
    rintro e w' ⟨he, u1⟩
    exact ⟨_, _, _, 0, 0, fun _ => 0, fun _ => 0, he, (fun g h => by cases h), .inl ⟨rfl, rfl⟩, .inl ⟨rfl, rfl⟩, u1, by omega, by omega⟩
  · refine (div_sep v u n m f h w hv hu hf hh hn hz).mono ?_
    rintro e w' HX
    obtain ⟨nq, nr, fq, fr, vq, vr, h1, h2, h3, h4, h5, -, -, h6, h7, -⟩ := unhide HX
    exact ⟨vq, vr, _, nq, nr, fq, fr, h1, h2, h3, h4, h5, by omega, h7⟩
theorem sub_kept (v u : Value) (n m : Nat) (f h : Nat → Nat) (w : World) (hv : Sl .u32 w v n f) (hu : Sl .u32 w u m h) (hf : ∀ i, i < n → f i < 4294967296) (hh : ∀ i, i < m → h i < 4294967296) (hn : 4 * n ≤ 281474976710656) :
    Calls Tryd.prog 21 #[v, u] w fun e w' => ∃ (va vo : Value), e = .returned (.tuple #[va, vo]) ∧ Up w w' := by
  rcases Nat.lt_or_ge (num 4294967296 f n) (num 4294967296 h m) with hz | hz
  · refine (sub_lt v u n m f h w hv hu hf hh hz).mono ?_
    rintro e w' ⟨he, u1⟩
    exact ⟨_, _, he, u1⟩
  · refine (sub_ge v u n m f h w hv hu hf hh hn hz).mono ?_
    rintro e w' ⟨v', n', f', he, -, u1, -⟩
    exact ⟨_, _, he, u1⟩

/-- Five rows of the call's own, in five blocks. -/
def Rws (w : World) (base L : Nat) (c : Nat → Nat) (vs : Nat → Value) : Prop :=
  (∀ i, i < 5 → ∃ n xs, w.ownsRow base 41 1 (vs i) n xs ∧ c i ≤ n ∧ n ≤ L + c i) ∧ ∀ i k, i < 5 → k < 5 → i ≠ k → Apart (vs i) (vs k)
theorem Rws.push {w w4 : World} {base L i n : Nat} {c : Nat → Nat} {vs : Nat → Value} {ys : List Value} {v' : Value} {o : Obj} (h : Rws w base L c vs) (hi : i < 5)
    (hc1 : c i ≤ n) (hc2 : n ≤ L + c i) (hown : w4.ownsRow base 41 1 v' (n + 1) ys) (hg : (w.alloc o).grownBy w4 (vs i).ownBlock) (hat : v'.ownBlock = (vs i).ownBlock ∨ v'.ownBlock = some (w.alloc o).heap.size) :
    Rws w4 base L (updA c i (c i + 1)) (updA vs i v') := by
  have hlt : ∀ k, k < 5 → ∀ g, (vs k).ownBlock = some g → g < (w.alloc o).heap.size := fun k hk g hgk => by
    obtain ⟨m, zs, hm, -⟩ := h.1 k hk
    have := (hm.lt g hgk).2
    simp
    omega
  refine ⟨fun k hk => ?_, fun k l hk hl hkl => ?_⟩
  · by_cases e : k = i
    · subst e
      rw [updA_same, updA_same]
      exact ⟨n + 1, ys, hown, by omega, by omega⟩
    · rw [updA_other e, updA_other e]
      obtain ⟨m, zs, hm, h1, h2⟩ := h.1 k hk
      refine ⟨m, zs, (hm.alloc o).kept hg ?_, h1, h2⟩
      cases hb : (vs k).ownBlock with
      | none => exact .inl rfl
      | some g => exact .inr (fun e' => h.2 k i hk hi e g hb e'.symm)
  · by_cases e : k = i
    · subst e
      rw [updA_same, updA_other (fun e => hkl e.symm)]
      intro g h1 h2
      rcases hat with h3 | h3
      · exact h.2 k l hk hl hkl g (h3 ▸ h1) h2
      · rw [h3] at h1
        cases h1
        exact absurd (hlt l hl _ h2) (by omega)
    · by_cases e2 : l = i
      · subst e2
        rw [updA_same, updA_other e]
        intro g h1 h2
        rcases hat with h3 | h3
        · exact h.2 k l hk hl hkl g h1 (h3 ▸ h2)
        · rw [h3] at h2
          cases h2
          exact absurd (hlt k hk _ h1) (by omega)
      · rw [updA_other e, updA_other e2]
        exact h.2 k l hk hl hkl
theorem Rws.congr {w : World} {base L : Nat} {c c' : Nat → Nat} {vs : Nat → Value} (h : Rws w base L c vs) (e : ∀ i, i < 5 → c i = c' i) : Rws w base L c' vs :=
  ⟨fun i hi => by rw [← e i hi]; exact h.1 i hi, h.2⟩
theorem row_head {w : World} {base n : Nat} {v : Value} {xs : List Value} (h : w.ownsRow base 41 1 v n xs) (hn : 0 < n) :
    ∃ g cap, v = .slice (some ⟨g, 0, none⟩) n cap ∧ base ≤ g ∧ (∃ x, w.cell? ⟨g, 0, none⟩ = some x) ∧ w.frozen? ⟨g, 0, none⟩ = false ∧ n ≤ cap := by
  rcases id h.2 with ⟨_, h0⟩ | ⟨g, cap, cur, rfl, h1, h2, h3, h4, h5, h6⟩
  · omega
  · have hl : 0 < xs.length := by have := h.1; omega
    exact ⟨g, cap, rfl, h1, ⟨xs[0], by rw [h.cellAt 0 (by omega)]; exact List.getElem?_eq_getElem hl⟩, h.frozenAt 0, h3⟩
theorem apart_range {a b : Value} {N : Nat} (ha : ∀ g, a.ownBlock = some g → g < N) (hb : ∀ g, b.ownBlock = some g → N ≤ g) : Apart a b ∧ Apart b a :=
  ⟨fun g h1 h2 => by have := ha g h1; have := hb g h2; omega, fun g h1 h2 => by have := ha g h2; have := hb g h1; omega⟩
def five (a b c d e : Value) : Nat → Value
  | 0 => a
  | 1 => b
  | 2 => c
  | 3 => d
  | _ => e

set_option maxRecDepth 4000 in
set_option maxHeartbeats 4000000 in
theorem kept_walk (v u : Value) (n m : Nat) (f h : Nat → Nat) (w : World) (hv : Sl .u32 w v n f) (hu : Sl .u32 w u m h)
    (hf : ∀ i, i < n → f i < 4294967296) (hh : ∀ i, i < m → h i < 4294967296) (hn : n ≤ 1048576) (hm : m ≤ 1048576) :
    Calls Tryd.prog 11 #[v, u] w fun e w' => e = .returned (.bool true) ∧ Below w.heap.size w w' := by
  obtain ⟨i, hi, hz0, hz1, hz2⟩ := info_parts infoU
  go_enter Tryd.func11, Tryd.ntmps11
  go_wp2_with fail
  refine (marked_any v n f w hv (by omega)).mono ?_
  rintro e w1 ⟨gx, cx, rfl, hgx, hcx, rx, u1⟩
  go_wp2_with fail
  refine (marked_any u m h w1 (hu.up u1) (by omega)).mono ?_
  rintro e w2 ⟨gy, cy, rfl, hgy, hcy, ry, u2⟩
  have rx2 : RowAt .u32 41 w2 gx cx (n + 40) (marks f n) := rx.block (Below.block u2 gx rx.lt)
  have sx : Sl .u32 w2 (.slice (some ⟨gx, 0, none⟩) n cx) n (marks f n) := (rx2.mono (by omega)).sl hcx
  have sy : Sl .u32 w2 (.slice (some ⟨gy, 0, none⟩) m cy) m (marks h m) := (ry.mono (by omega)).sl hcy
  have dx : ∀ i, i < n → marks f n i < 4294967296 := fun i hi => by unfold marks; rw [if_pos hi]; exact hf i hi
  have dy : ∀ i, i < m → marks h m i < 4294967296 := fun i hi => by unfold marks; rw [if_pos hi]; exact hh i hi
  have SX : Sl .u32 w2 (.slice (some ⟨gx, 0, none⟩) (n + 40) cx) (n + 40) (marks f n) := rx2.sl hcx
  have SY : Sl .u32 w2 (.slice (some ⟨gy, 0, none⟩) (m + 40) cy) (m + 40) (marks h m) := ry.sl hcy
  have U2 : Up w w2 := u1.tr u2
  have HB := hide (And.intro (hv.up U2) (And.intro (hu.up U2) (And.intro SX SY)))
  clear rx ry rx2 SX SY hv hu hf hh
  go_wp2_with fail
  refine (add2 _ _ n m 1048576 _ _ _ sx sy dx dy hn hm (by omega)).mono ?_
  rintro e w3 ⟨v3, n3, f3, rfl, o3, u3, -, l3, -⟩
  replace u3 : Up w2 w3 := u3
  go_wp2_with fail
  refine (mul2 _ _ n m _ _ _ (sx.up u3) (sy.up u3) dx dy (by omega)).mono ?_
  rintro e w4 ⟨v4, n4, f4, rfl, o4, u4, -, l4, -⟩
  replace u4 : Up w3 w4 := u4
  have U4 : Up w2 w4 := u3.tr u4
  go_wp2_with fail
  refine (div_kept _ _ n m _ _ _ (sx.up U4) (sy.up U4) dx dy (by omega)).mono ?_
  rintro e w5 ⟨vq, vr, vo, nq, nr, fq, fr, rfl, aqr, oq, or, u5, lq, lr⟩
  have U5 : Up w2 w5 := U4.tr u5
  go_wp2_with fail
  refine (sub_kept _ _ n m _ _ _ (sx.up U5) (sy.up U5) dx dy (by omega)).mono ?_
  rintro e w6 ⟨va, vo', rfl, u6⟩
  have U6 : Up w2 w6 := U5.tr u6
  go_wp2_with fail
  refine (add2 _ _ n 0 1048576 _ (fun _ => 0) _ (sx.up U6) (sl_nil _ _) dx (fun i hi => by omega) hn (by omega) (by omega)).mono ?_
  rintro e w7 ⟨v7, n7, f7, rfl, o7, u7, -, l7, -⟩
  replace u7 : Up w6 w7 := u7
  have U7 : Up w2 w7 := U6.tr u7
  have s3 := Below.size u3
  have s4 := Below.size u4
  have s5 := Below.size u5
  have s6 := Below.size u6
  have s7 := Below.size u7
  have RW : Rws w7 w2.heap.size 2097160 (fun _ => 0) (five v3 v4 vq vr v7) := by
    have a34 := apart_range (fun g hg => (o3.block_lt g hg).2) (fun g hg => (o4.block_lt g hg).1)
    have a3q := apart_range (N := w4.heap.size) (fun g hg => by have := (o3.block_lt g hg).2; omega) (fun g hg => (oq.block_lt g hg).1)
    have a3r := apart_range (N := w4.heap.size) (fun g hg => by have := (o3.block_lt g hg).2; omega) (fun g hg => (or.block_lt g hg).1)
    have a37 := apart_range (N := w6.heap.size) (fun g hg => by have := (o3.block_lt g hg).2; omega) (fun g hg => (o7.block_lt g hg).1)
    have a4q := apart_range (fun g hg => (o4.block_lt g hg).2) (fun g hg => (oq.block_lt g hg).1)
    have a4r := apart_range (fun g hg => (o4.block_lt g hg).2) (fun g hg => (or.block_lt g hg).1)
    have a47 := apart_range (N := w6.heap.size) (fun g hg => by have := (o4.block_lt g hg).2; omega) (fun g hg => (o7.block_lt g hg).1)
    have aq7 := apart_range (N := w6.heap.size) (fun g hg => by have := (oq.block_lt g hg).2; omega) (fun g hg => (o7.block_lt g hg).1)
    have ar7 := apart_range (N := w6.heap.size) (fun g hg => by have := (or.block_lt g hg).2; omega) (fun g hg => (o7.block_lt g hg).1)
    have arq : Apart vr vq := fun g h1 h2 => aqr g h2 h1
    refine ⟨fun i hi => ?_, fun i k hi hk hik => ?_⟩
    · match i, hi with
      | 0, _ => exact ⟨n3, _, ((o3.up ((u4.tr u5).tr (u6.tr u7))).mono (Nat.le_refl _)).row, Nat.zero_le _, (show n3 ≤ 2097160 + 0 by omega)⟩
      | 1, _ => exact ⟨n4, _, ((o4.up (u5.tr (u6.tr u7))).mono s3).row, Nat.zero_le _, (show n4 ≤ 2097160 + 0 by omega)⟩
      | 2, _ => exact ⟨nq, _, ((oq.up (u6.tr u7)).mono (by omega)).row, Nat.zero_le _, (show nq ≤ 2097160 + 0 by omega)⟩
      | 3, _ => exact ⟨nr, _, ((or.up (u6.tr u7)).mono (by omega)).row, Nat.zero_le _, (show nr ≤ 2097160 + 0 by omega)⟩
      | 4, _ => exact ⟨n7, _, (o7.mono (by omega)).row, Nat.zero_le _, (show n7 ≤ 2097160 + 0 by omega)⟩
    · match i, k, hi, hk, hik with
      | 0, 1, _, _, _ => exact a34.1
      | 0, 2, _, _, _ => exact a3q.1
      | 0, 3, _, _, _ => exact a3r.1
      | 0, 4, _, _, _ => exact a37.1
      | 1, 0, _, _, _ => exact a34.2
      | 1, 2, _, _, _ => exact a4q.1
      | 1, 3, _, _, _ => exact a4r.1
      | 1, 4, _, _, _ => exact a47.1
      | 2, 0, _, _, _ => exact a3q.2
      | 2, 1, _, _, _ => exact a4q.2
      | 2, 3, _, _, _ => exact aqr
      | 2, 4, _, _, _ => exact aq7.1
      | 3, 0, _, _, _ => exact a3r.2
      | 3, 1, _, _, _ => exact a4r.2
      | 3, 2, _, _, _ => exact arq
      | 3, 4, _, _, _ => exact ar7.1
      | 4, 0, _, _, _ => exact a37.2
      | 4, 1, _, _, _ => exact a47.2
      | 4, 2, _, _, _ => exact aq7.2
      | 4, 3, _, _, _ => exact ar7.2
      | 0, 0, _, _, h => exact absurd rfl h
      | 1, 1, _, _, h => exact absurd rfl h
      | 2, 2, _, _, h => exact absurd rfl h
      | 3, 3, _, _, h => exact absurd rfl h
      | 4, 4, _, _, h => exact absurd rfl h
  have HRW := hide RW
  clear RW o3 o4 oq or o7 aqr sx sy dx dy u3 u4 u5 u6 u7 U4 U5 U6
  go_wp2_with fail
  go_loopw [9, 10, 11, 12, 14, 15] (fun t9 t10 t11 t12 t14 t15 wr => ∃ (j : Nat) (vs : Nat → Value), j ≤ 5 ∧ t15 = .int .i64 j ∧ t9 = vs 0 ∧ t10 = vs 1 ∧ t11 = vs 2 ∧ t12 = vs 3 ∧ t14 = vs 4 ∧ Up w2 wr ∧ Hid (Rws wr w2.heap.size 2097160 (fun _ => j) vs)) (fun _ _ _ _ _ t15 _ => 5 - (intOf t15).toNat)
  case atStart => exact ⟨0, five v3 v4 vq vr v7, by omega, rfl, rfl, rfl, rfl, rfl, rfl, U7, HRW⟩
  case round =>
    obtain ⟨j, vs, hj, rfl, rfl, rfl, rfl, rfl, rfl, up, HR⟩ := hrel
    have hszr := Below.size up
    by_cases hlt : j < 5
    · have H0 := HR
      have up0 := up
      have sz0 := hszr
      clear HR up hszr
      go_wp2_with (first
        | (at_builtin; have hx := H4; clear hx; obtain ⟨n4, xs4, ho4, a4, b4⟩ := (unhide H4).1 4 (by omega); have b4' : n4 ≤ 2097160 + j := b4; refine wpList_append_own_at _ rfl _ _ 22 rfl w2.heap.size 41 i (.int .u32 0) 1 4 Tryd.underlying22 hi hz0 hz1 hz2 rfl (by decide) _ _ _ rfl (ho4.alloc _) ⟨y3.heap.size, 0, none⟩ 1 1 [.int .u32 9] rfl rfl (cells_one _ _ _) (fun u hu => by simp at hu; subst hu; rfl) (by unfold maxLen; omega) (by omega) (by simp; omega) ?_; intro z4 y4 ow4 gr4 hq4 at4; have H5 := hide (Rws.push (unhide H4) (by omega) a4 b4 ow4 gr4 at4); have up5 : Up w2 y4 := (Below.alloc up4 sz4 _).grown gr4 (by simp; omega) (fun g hg => (ho4.lt g hg).1); have sz5 := Below.size up5; clear ho4 a4 b4 b4' ow4 gr4 hq4 at4 H4)
        | (at_builtin; have hx := H3; clear hx; obtain ⟨n3, xs3, ho3, a3, b3⟩ := (unhide H3).1 3 (by omega); have b3' : n3 ≤ 2097160 + j := b3; refine wpList_append_own_at _ rfl _ _ 22 rfl w2.heap.size 41 i (.int .u32 0) 1 4 Tryd.underlying22 hi hz0 hz1 hz2 rfl (by decide) _ _ _ rfl (ho3.alloc _) ⟨y2.heap.size, 0, none⟩ 1 1 [.int .u32 9] rfl rfl (cells_one _ _ _) (fun u hu => by simp at hu; subst hu; rfl) (by unfold maxLen; omega) (by omega) (by simp; omega) ?_; intro z3 y3 ow3 gr3 hq3 at3; have H4 := hide (Rws.push (unhide H3) (by omega) a3 b3 ow3 gr3 at3); have up4 : Up w2 y3 := (Below.alloc up3 sz3 _).grown gr3 (by simp; omega) (fun g hg => (ho3.lt g hg).1); have sz4 := Below.size up4; clear ho3 a3 b3 b3' ow3 gr3 hq3 at3 H3)
        | (at_builtin; have hx := H2; clear hx; obtain ⟨n2, xs2, ho2, a2, b2⟩ := (unhide H2).1 2 (by omega); have b2' : n2 ≤ 2097160 + j := b2; refine wpList_append_own_at _ rfl _ _ 22 rfl w2.heap.size 41 i (.int .u32 0) 1 4 Tryd.underlying22 hi hz0 hz1 hz2 rfl (by decide) _ _ _ rfl (ho2.alloc _) ⟨y1.heap.size, 0, none⟩ 1 1 [.int .u32 9] rfl rfl (cells_one _ _ _) (fun u hu => by simp at hu; subst hu; rfl) (by unfold maxLen; omega) (by omega) (by simp; omega) ?_; intro z2 y2 ow2 gr2 hq2 at2; have H3 := hide (Rws.push (unhide H2) (by omega) a2 b2 ow2 gr2 at2); have up3 : Up w2 y2 := (Below.alloc up2 sz2 _).grown gr2 (by simp; omega) (fun g hg => (ho2.lt g hg).1); have sz3 := Below.size up3; clear ho2 a2 b2 b2' ow2 gr2 hq2 at2 H2)
        | (at_builtin; have hx := H1; clear hx; obtain ⟨n1, xs1, ho1, a1, b1⟩ := (unhide H1).1 1 (by omega); have b1' : n1 ≤ 2097160 + j := b1; refine wpList_append_own_at _ rfl _ _ 22 rfl w2.heap.size 41 i (.int .u32 0) 1 4 Tryd.underlying22 hi hz0 hz1 hz2 rfl (by decide) _ _ _ rfl (ho1.alloc _) ⟨y0.heap.size, 0, none⟩ 1 1 [.int .u32 9] rfl rfl (cells_one _ _ _) (fun u hu => by simp at hu; subst hu; rfl) (by unfold maxLen; omega) (by omega) (by simp; omega) ?_; intro z1 y1 ow1 gr1 hq1 at1; have H2 := hide (Rws.push (unhide H1) (by omega) a1 b1 ow1 gr1 at1); have up2 : Up w2 y1 := (Below.alloc up1 sz1 _).grown gr1 (by simp; omega) (fun g hg => (ho1.lt g hg).1); have sz2 := Below.size up2; clear ho1 a1 b1 b1' ow1 gr1 hq1 at1 H1)
        | (at_builtin; obtain ⟨n0, xs0, ho0, a0, b0⟩ := (unhide H0).1 0 (by omega); have b0' : n0 ≤ 2097160 + j := b0; refine wpList_append_own_at _ rfl _ _ 22 rfl w2.heap.size 41 i (.int .u32 0) 1 4 Tryd.underlying22 hi hz0 hz1 hz2 rfl (by decide) _ _ _ rfl (ho0.alloc _) ⟨wr.heap.size, 0, none⟩ 1 1 [.int .u32 9] rfl rfl (cells_one _ _ _) (fun u hu => by simp at hu; subst hu; rfl) (by unfold maxLen; omega) (by omega) (by simp; omega) ?_; intro z0 y0 ow0 gr0 hq0 at0; have H1 := hide (Rws.push (unhide H0) (by omega) a0 b0 ow0 gr0 at0); have up1 : Up w2 y0 := (Below.alloc up0 sz0 _).grown gr0 (by simp; omega) (fun g hg => (ho0.lt g hg).1); have sz1 := Below.size up1; clear ho0 a0 b0 b0' ow0 gr0 hq0 at0 H0))
      go_roundw
      case rel => exact ⟨j + 1, (updA (updA (updA (updA (updA vs 0 z0) 1 z1) 2 z2) 3 z3) 4 z4), by omega, by go_num, rfl, rfl, rfl, rfl, rfl, up5, hide ((unhide H5).congr (fun i hi => by
          match i, hi with
          | 0, _ => rfl
          | 1, _ => rfl
          | 2, _ => rfl
          | 3, _ => rfl
          | 4, _ => rfl))⟩
      case measure => simp [intOf]; omega
    · obtain rfl : j = 5 := by omega
      obtain ⟨n0, xs0, ho0, c0, -⟩ := (unhide HR).1 0 (by omega)
      replace c0 : 5 ≤ n0 := c0
      obtain ⟨n1, xs1, ho1, c1, -⟩ := (unhide HR).1 1 (by omega)
      replace c1 : 5 ≤ n1 := c1
      obtain ⟨n2, xs2, ho2, c2, -⟩ := (unhide HR).1 2 (by omega)
      replace c2 : 5 ≤ n2 := c2
      obtain ⟨n3, xs3, ho3, c3, -⟩ := (unhide HR).1 3 (by omega)
      replace c3 : 5 ≤ n3 := c3
      obtain ⟨n4, xs4, ho4, c4, -⟩ := (unhide HR).1 4 (by omega)
      replace c4 : 5 ≤ n4 := c4
      have q01 := (unhide HR).2 0 1 (by omega) (by omega) (by omega)
      have q02 := (unhide HR).2 0 2 (by omega) (by omega) (by omega)
      have q03 := (unhide HR).2 0 3 (by omega) (by omega) (by omega)
      have q04 := (unhide HR).2 0 4 (by omega) (by omega) (by omega)
      have q10 := (unhide HR).2 1 0 (by omega) (by omega) (by omega)
      have q12 := (unhide HR).2 1 2 (by omega) (by omega) (by omega)
      have q13 := (unhide HR).2 1 3 (by omega) (by omega) (by omega)
      have q14 := (unhide HR).2 1 4 (by omega) (by omega) (by omega)
      have q20 := (unhide HR).2 2 0 (by omega) (by omega) (by omega)
      have q21 := (unhide HR).2 2 1 (by omega) (by omega) (by omega)
      have q23 := (unhide HR).2 2 3 (by omega) (by omega) (by omega)
      have q24 := (unhide HR).2 2 4 (by omega) (by omega) (by omega)
      have q30 := (unhide HR).2 3 0 (by omega) (by omega) (by omega)
      have q31 := (unhide HR).2 3 1 (by omega) (by omega) (by omega)
      have q32 := (unhide HR).2 3 2 (by omega) (by omega) (by omega)
      have q34 := (unhide HR).2 3 4 (by omega) (by omega) (by omega)
      have q40 := (unhide HR).2 4 0 (by omega) (by omega) (by omega)
      have q41 := (unhide HR).2 4 1 (by omega) (by omega) (by omega)
      have q42 := (unhide HR).2 4 2 (by omega) (by omega) (by omega)
      have q43 := (unhide HR).2 4 3 (by omega) (by omega) (by omega)
      clear HR
      generalize vs 0 = s0 at *
      generalize vs 1 = s1 at *
      generalize vs 2 = s2 at *
      generalize vs 3 = s3 at *
      generalize vs 4 = s4 at *
      obtain ⟨g0, k0, rfl, p0, ⟨x0, e0⟩, f0, r0⟩ := row_head ho0 (by omega)
      clear ho0
      obtain ⟨g1, k1, rfl, p1, ⟨x1, e1⟩, f1, r1⟩ := row_head ho1 (by omega)
      clear ho1
      obtain ⟨g2, k2, rfl, p2, ⟨x2, e2⟩, f2, r2⟩ := row_head ho2 (by omega)
      clear ho2
      obtain ⟨g3, k3, rfl, p3, ⟨x3, e3⟩, f3, r3⟩ := row_head ho3 (by omega)
      clear ho3
      obtain ⟨g4, k4, rfl, p4, ⟨x4, e4⟩, f4, r4⟩ := row_head ho4 (by omega)
      clear ho4
      replace q01 : ¬ g0 = g1 := fun e => q01 g0 rfl (by rw [e]; rfl)
      replace q02 : ¬ g0 = g2 := fun e => q02 g0 rfl (by rw [e]; rfl)
      replace q03 : ¬ g0 = g3 := fun e => q03 g0 rfl (by rw [e]; rfl)
      replace q04 : ¬ g0 = g4 := fun e => q04 g0 rfl (by rw [e]; rfl)
      replace q10 : ¬ g1 = g0 := fun e => q10 g1 rfl (by rw [e]; rfl)
      replace q12 : ¬ g1 = g2 := fun e => q12 g1 rfl (by rw [e]; rfl)
      replace q13 : ¬ g1 = g3 := fun e => q13 g1 rfl (by rw [e]; rfl)
      replace q14 : ¬ g1 = g4 := fun e => q14 g1 rfl (by rw [e]; rfl)
      replace q20 : ¬ g2 = g0 := fun e => q20 g2 rfl (by rw [e]; rfl)
      replace q21 : ¬ g2 = g1 := fun e => q21 g2 rfl (by rw [e]; rfl)
      replace q23 : ¬ g2 = g3 := fun e => q23 g2 rfl (by rw [e]; rfl)
      replace q24 : ¬ g2 = g4 := fun e => q24 g2 rfl (by rw [e]; rfl)
      replace q30 : ¬ g3 = g0 := fun e => q30 g3 rfl (by rw [e]; rfl)
      replace q31 : ¬ g3 = g1 := fun e => q31 g3 rfl (by rw [e]; rfl)
      replace q32 : ¬ g3 = g2 := fun e => q32 g3 rfl (by rw [e]; rfl)
      replace q34 : ¬ g3 = g4 := fun e => q34 g3 rfl (by rw [e]; rfl)
      replace q40 : ¬ g4 = g0 := fun e => q40 g4 rfl (by rw [e]; rfl)
      replace q41 : ¬ g4 = g1 := fun e => q41 g4 rfl (by rw [e]; rfl)
      replace q42 : ¬ g4 = g2 := fun e => q42 g4 rfl (by rw [e]; rfl)
      replace q43 : ¬ g4 = g3 := fun e => q43 g4 rfl (by rw [e]; rfl)
      clear HRW U7 s3 s4 s5 s6 s7 l3 l4 lq lr l7
      go_wp2_with fail
      have U8 : Up w2 (((((wr.setCell ⟨g0, 0, none⟩ (.int .u32 7)).setCell ⟨g1, 0, none⟩ (.int .u32 7)).setCell ⟨g2, 0, none⟩ (.int .u32 7)).setCell ⟨g3, 0, none⟩ (.int .u32 7)).setCell ⟨g4, 0, none⟩ (.int .u32 7)) :=
        Below.setCell (p := ⟨g4, 0, none⟩) (Below.setCell (p := ⟨g3, 0, none⟩) (Below.setCell (p := ⟨g2, 0, none⟩) (Below.setCell (p := ⟨g1, 0, none⟩) (Below.setCell (p := ⟨g0, 0, none⟩) up p0 _) p1 _) p2 _) p3 _) p4 _
      clear q01 q02 q03 q04 q10 q12 q13 q14 q20 q21 q23 q24 q30 q31 q32 q34 q40 q41 q42 q43 e0 e1 e2 e3 e4 f0 f1 f2 f3 f4
      refine (back_any _ _ n f _ ((unhide HB).1.up U8) ((unhide HB).2.2.1.up U8) (by omega)).mono ?_
      rintro e w9 ⟨rfl, u9⟩
      have U9 := U8.tr u9
      clear U8 u9
      go_wp2_with fail
      refine (back_any _ _ m h _ ((unhide HB).2.1.up U9) ((unhide HB).2.2.2.up U9) (by omega)).mono ?_
      rintro e w10 ⟨rfl, u10⟩
      have U10 := U9.tr u10
      clear U9 u10
      go_wp2_with fail
      refine (awake_any _).mono ?_
      rintro e w11 ⟨rfl, u11⟩
      replace u11 : Up w10 w11 := u11
      go_wp2_with fail
      go_ret
      exact ⟨rfl, (U2.tr U10).tr u11⟩

end Go.Proofs.YtpagphcioeefdaaDoor
