/-
  What is proved here: the walk of ValueNumbers. the walk of ValueNumbers, of whatever two numbers.
-/
import Derived.Deep.RegionHeld3
import Derived.Test.YtchdfenickjiiaaVNumL
namespace Go.Proofs.Ytchdfenickjiiaa
open Go Go.RowKit

/-- New's store beside the two numbers' boxes. -/
theorem VN.start {w W : World} {ba bu : Bool} {va vu : Value} {sb hb mb : Nat} {X : Nat → Prop} (St : StoreAt W sb hb X (.slice none 0 0) mb 0 4000 0 1 (fun _ => 0) (fun _ => false)) (hX : ∀ k, X k → ((w.alloc (.cells #[.bool ba, va] 45)).alloc (.cells #[.bool bu, vu] 45)).heap.size ≤ k)
    (F : Fr (fun _ => False) ((w.alloc (.cells #[.bool ba, va] 45)).alloc (.cells #[.bool bu, vu] 45)) W) : VN w ba va bu vu sb hb X 1 (fun _ => 0) (fun _ => false) W := by
  have tb := two_blocks w (.cells #[.bool ba, va] 45) (.cells #[.bool bu, vu] 45)
  have u : Up _ W := F.up
  have e : ((w.alloc (.cells #[.bool ba, va] 45)).alloc (.cells #[.bool bu, vu] 45)).heap.size = w.heap.size + 2 := by simp
  exact ⟨((up_alloc w _).tr (up_alloc _ _)).tr u, u.blk tb.1, u.blk tb.2, St.H, St.cells.1, St.sX, fun k hk => by have := hX k hk; omega⟩
theorem VN.ca {w W : World} {ba : Bool} {va : Value} {bu : Bool} {vu : Value} {sb hb : Nat} {X : Nat → Prop} {n : Nat} {f : Nat → Nat} {st : Nat → Bool} (h : VN w ba va bu vu sb hb X n f st W) : W.cell? ⟨w.heap.size, 0, none⟩ = some (.bool ba) ∧ W.cell? ⟨w.heap.size, 1, none⟩ = some va ∧ W.cell? ⟨w.heap.size + 1, 0, none⟩ = some (.bool bu) ∧ W.cell? ⟨w.heap.size + 1, 1, none⟩ = some vu :=
  ⟨cell_of_row W _ 0 _ _ _ h.xa, cell_of_row W _ 1 _ _ _ h.xa, cell_of_row W _ 0 _ _ _ h.xu, cell_of_row W _ 1 _ _ _ h.xu⟩

/-- A copy of a number's limbs, of the call's own. -/
structure CopN (w w' : World) (Z : Int) (M : Nat) (b : Bool) (n : Nat) (f : Nat → Nat) (v : Value) : Prop where
  O : Own .u32 57 w' w.heap.size v n f
  d : ∀ i, i < n → f i < 4294967296
  le : n ≤ M
  s : sgn b (num 4294967296 f n) = Z
  U : Up w w'
theorem CopN.rd {w w' : World} {Z : Int} {M : Nat} {b : Bool} {n : Nat} {f : Nat → Nat} {v : Value} (h : CopN w w' Z M b n f v) : RdD Z M w' (.agg #[.bool b, v]) := ⟨b, n, f, ⟨v, rfl, h.O.sl⟩, h.d, h.le, h.s⟩
theorem copy_rd {Z : Int} {M : Nat} {w : World} {b : Bool} {ao : Option Addr} {n cap : Nat} (h : RdD Z M w (.agg #[.bool b, .slice ao n cap])) (hM : 4 * M ≤ 140737488355328) :
    Calls Try.prog 22 #[.slice ao n cap] w fun e w' => ∃ f ao' cap', e = .returned (.slice ao' n cap') ∧ CopN w w' Z M b n f (.slice ao' n cap') := by
  obtain ⟨b', n', f, ⟨v, e, hv⟩, hd, hn, hz⟩ := h
  cases e
  obtain ⟨ao2, cap2, e, h1, h2, h3, h4⟩ := hv
  cases e
  refine (copy_any ao n cap f w h4 h3 (by omega)).mono fun e w' he => ?_
  obtain ⟨v, k1, k2, k3⟩ := he
  obtain ⟨ao', cap', rfl, -⟩ := k2.sl
  exact ⟨f, ao', cap', k1, k2, hd, hn, hz, k3⟩

/-- .. with a zero appended: the same number. -/
theorem CopN.app {w0 w9 wx w10 W : World} {Z : Int} {M : Nat} {b : Bool} {n : Nat} {f : Nat → Nat} {v v' : Value} (h : CopN w0 w9 Z M b n f v) (u0 : Up W w0) (ux : Up w9 wx) (ho : w10.ownsRow w0.heap.size 57 1 v' (n + 1) (cellsOf .u32 f n ++ [.int .u32 0])) (hg : wx.grownBy w10 v.ownBlock) : RdD Z (M + 1) w10 (.agg #[.bool b, v']) ∧ Up W w10 := by
  have U := u0.tr (h.U.tr ux)
  refine ⟨⟨b, n + 1, upd f n 0, ⟨v', rfl, (Own.of_row (k := .u32) (f := upd f n 0) ho (fun i hi => ?_)).sl⟩, fun i hi => ?_, by have := h.le; omega, ?_⟩, ?_⟩
  · rcases Nat.lt_or_ge i n with e | e
    · rw [upd_other (by omega), List.getElem?_append_left (by rw [cellsOf_length]; exact e), cellsOf_get _ _ _ _ e]
    · have e2 : i = n := by omega
      rw [e2, upd_same, List.getElem?_append_right (by rw [cellsOf_length]; omega), cellsOf_length, Nat.sub_self]
      rfl
  · rcases Nat.lt_or_ge i n with e | e
    · rw [upd_other (by omega)]; exact h.d i e
    · rw [show i = n by omega, upd_same]; decide
  · rw [num_succ, upd_same, Nat.zero_mul, Nat.add_zero, num_congr (g := f) (fun i hi => upd_other (by omega))]
    exact h.s
  · refine U.grown hg (by have := U.size; exact this) (fun j ej => ?_)
    rcases h.O with ⟨rfl, _⟩ | ⟨g, cap, rfl, hb, _⟩
    · cases ej
    · have e : g = j := by simpa [Value.ownBlock] using ej
      have := u0.size
      omega

theorem ct_of {W w9 : World} (u : Up (W.alloc (.cells #[.int .u32 0] 57)) w9) : ∀ j x, [Value.int .u32 0][j]? = some x → w9.cell? ((⟨W.heap.size, 0, none⟩ : Addr).add j) = some x := by
  intro j x hj
  match j, hj with
  | 0, hj =>
    cases hj
    exact cell_of_row w9 W.heap.size 0 _ _ _ (u.blk (heap_alloc_new W _))
  | j + 1, hj => simp at hj

theorem RdC.form {X : Int} {M : Nat} {w : World} {a : Value} (h : RdC X M w a) : ∃ b ao n cap, a = .agg #[.bool b, .slice ao n cap] := by
  obtain ⟨b, n, f, ⟨v, rfl, ao, cap, rfl, _⟩, _⟩ := h
  exact ⟨b, ao, n, cap, rfl⟩
theorem RdC.upw {X : Int} {M : Nat} {w w' : World} {a : Value} (h : RdC X M w a) (u : Up w w') : RdC X M w' a := by
  obtain ⟨b, n, f, hn, r⟩ := h
  exact ⟨b, n, f, hn.up u, r⟩
theorem same_rdc {X : Int} {M M' : Nat} {w : World} {a u : Value} (h : RdC X M w a) (k : RdC X M' w u) :
    Calls Try.prog 28 #[a, u] w fun e w' => e = .returned (.bool true) ∧ Up w w' := by
  obtain ⟨b, n, f, h1, h2, _, h4⟩ := h
  obtain ⟨c, m, g, k1, k2, _, k4⟩ := k
  obtain ⟨e1, e2⟩ := canz_len h2 k2 (h4.trans k4.symm)
  exact sameNum_any a u b c n m f g w h1 k1 e1 e2
theorem cmp_zero (X Y : Int) : (cmpZ X Y == 0) = decide (X = Y) := by
  unfold cmpZ
  by_cases h1 : X < Y
  · rw [if_pos h1, decide_eq_false (by omega)]; rfl
  · rw [if_neg h1]
    by_cases h2 : Y < X
    · rw [if_pos h2, decide_eq_false (by omega)]; rfl
    · rw [if_neg h2, decide_eq_true (by omega)]; rfl

theorem canon_near {Z : Int} {M : Nat} {w : World} {a : Value} (h : RdD Z M w a) (hM : 2 * M + 1 ≤ 10000000000) (hl : Lim Z) :
    Calls Try.prog 23 #[a] w fun e w' => ∃ b ao n cap, e = .returned (.agg #[.bool b, .slice ao n cap]) ∧ n ≤ 256 ∧ RdC Z M w' (.agg #[.bool b, .slice ao n cap]) ∧ Up w w' := by
  refine (r2canon_rd h hM).mono fun e w' he => ?_
  obtain ⟨v, h1, ⟨b, n, f, ⟨v', rfl, k1⟩, k2, k3, k4⟩, h3⟩ := he
  obtain ⟨ao, cap, rfl, -⟩ := id k1.sl
  exact ⟨b, ao, n, cap, h1, hl _ _ _ k2 k4, ⟨b, n, f, ⟨_, rfl, k1.sl⟩, k2, k3, k4⟩, h3⟩
theorem field1 (b : Bool) (ao : Option Addr) (n cap : Nat) (w : World) : (Instr.field 45 (.agg #[.bool b, .slice ao n cap]) 1).run Try.prog w = .ok (.slice ao n cap) w := by kernel_rfl

set_option maxRecDepth 100000 in
set_option maxHeartbeats 4000000 in
theorem valueNumbers_near (ba bu : Bool) (aa au : Option Addr) (na nu ca cu M : Nat) (Za Zu : Int) (w : World) (ha : RdD Za M w (.agg #[.bool ba, .slice aa na ca])) (hu : RdD Zu M w (.agg #[.bool bu, .slice au nu cu])) (hM : M ≤ 2000000) (la : Lim Za) (lu : Lim Zu) :
    Calls Try.prog 5 #[.agg #[.bool ba, .slice aa na ca], .agg #[.bool bu, .slice au nu cu]] w fun e w' => e = .returned (.bool true) ∧ Below w.heap.size w w' := by
  have KNew := fun w1 => vnew_ok 4000 w1 (by decide) (by decide)
  have HA := hide ha
  have HU := hide hu
  have HLa := hide la
  have HLu := hide lu
  clear ha hu la lu
  go_enter Try.func5, Try.ntmps5
  go_wp2_with (first
    | (go_at_call 15; refine (KNew _).mono ?_; rintro e w1 ⟨sb, hb, X, mb, rfl, St, _, hX, _, _, F1⟩; have V1 := VN.start St hX F1; have HV1 := hide V1; obtain ⟨a0, a1, u0, u1⟩ := V1.ca; have s1 := V1.S; clear V1 St hX F1)
    | (go_at_call 20; refine (used_any _ _ _ _ _ _ _ _ HV1.out.H).mono ?_; rintro e w2 ⟨rfl, q2, rfl⟩))
  have V2 := HV1.out.up (up_drewN w1 q2)
  generalize w1.drewN q2 = W2 at *
  clear HV1 a0 a1 u0 u1 s1
  have V2d := V2.up (up_drew W2)
  obtain ⟨a0, a1, u0, u1⟩ := V2.ca
  have HV2 := hide V2d
  have HRa := fun (W : World) (h : Below w.heap.size w W) => HA.out.up h
  have HRu := fun (W : World) (h : Below w.heap.size w W) => HU.out.up h
  have HRA := hide HRa
  have HRU := hide HRu
  clear V2 V2d HRa HRu
  go_region_held3 (fun w' => w'.cell? ⟨w.heap.size, 0, none⟩ = some (.bool ba) ∧ w'.cell? ⟨w.heap.size, 1, none⟩ = some (.slice aa na ca)) (go_keep)
    (first
      | (go_at_call 22; refine (copy_rd (HRA.out _ HV2.out.U) (by omega)).mono ?_; rintro e w3 ⟨f3, ao3, cp3, rfl, C3⟩; have V3 := HV2.out.up C3.U; obtain ⟨a30, a31, u30, u31⟩ := V3.ca; have HV3 := hide V3; have HC3 := hide C3; clear V3 C3)
      | (go_at_call 21; refine (number_any w3 sb hb X 4000 0 1 _ _ _ M Za HV3.out.H HV3.out.S HV3.out.nX HC3.out.rd (by omega) HLa.out (by decide)).mono ?_; rintro e w4 ⟨x, X4, n4, f4, st4, rfl, N4⟩; have V4 := HV3.out.numb N4; obtain ⟨a40, a41, u40, u41⟩ := V4.ca; have HN4 := hide N4; have HV4 := hide V4; clear V4 N4))
  clear a0 a1 u0 u1 a30 a31 u30 u31
  have hs4 := HV4.out.S
  have hfl := field1
  obtain ⟨d4, hd4⟩ : ∃ d, d = decide (n4 = 1) := ⟨_, rfl⟩
  have hsm := HN4.out.small
  rw [← hd4] at hsm
  have hu4 : ((n4 : Int) == 1) = d4 := by rw [hd4]; by_cases e : n4 = 1 <;> simp [e]; omega
  have KSm := fun (W : World) (h : Below w.heap.size w W) => r2small_rd (HRA.out W h) (by omega)
  rw [← hsm] at KSm
  have HKS := hide KSm
  have hdd : (d4 != d4) = false := by simp
  clear hd4 hsm KSm
  go_wp2_with (first
    | (go_at_call_of 23 (Value.agg #[Value.bool ba, Value.slice aa na ca]); refine (canon_near (HRA.out _ HV4.out.U) (by omega) HLa.out).mono ?_; rintro e w5 ⟨b5, ao5, n5, cap5, rfl, h5, _, u5⟩; have V5 := HV4.out.up u5; clear u5; obtain ⟨a50, a51, u50, u51⟩ := V5.ca; have s5 := V5.S; have HV5 := hide V5; clear V5; have g5 : ¬ (256 : Int) < (n5 : Int) := (by omega))
    | (go_at_call_of 23 (Value.agg #[Value.bool bu, Value.slice au nu cu]); refine (canon_near (HRU.out _ HV5.out.U) (by omega) HLu.out).mono ?_; rintro e w6 ⟨b6, ao6, n6, cap6, rfl, h6, _, u6⟩; have V6 := HV5.out.up u6; clear u6; obtain ⟨a60, a61, u60, u61⟩ := V6.ca; have s6 := V6.S; have HV6 := hide V6; clear V6; have g6 : ¬ (256 : Int) < (n6 : Int) := (by omega))
    | (go_at_call 24; refine (HKS.out w6 HV6.out.U).mono ?_; rintro e w7 ⟨rfl, u7⟩; have V7 := HV6.out.up u7; clear u7; obtain ⟨a70, a71, u70, u71⟩ := V7.ca; have s7 := V7.S; have HV7 := hide V7; clear V7)
    | (go_at_call 20; refine (used_any _ _ _ _ _ _ _ _ HV7.out.H).mono ?_; rintro e w8 ⟨rfl, q8, rfl⟩))
  have V8 := HV7.out.up (up_drewN w7 q8)
  generalize w7.drewN q8 = W8 at *
  clear HV7 HV6 HV5 HV2 HV3 HC3 a40 a41 u40 u41 a50 a51 u50 u51 a60 a61 u60 u61 a70 a71 u70 u71 hs4 s5 s6 s7 hu4 hdd g5 g6 h5 h6
  have V8d := V8.up (up_drew W8)
  obtain ⟨a0, a1, u0, u1⟩ := V8.ca
  have HV8 := hide V8d
  clear V8 V8d
  obtain ⟨i0, hi0, hz0, hz1, hz2⟩ := info_parts infoU
  obtain ⟨M1, hM1⟩ : ∃ M1, M1 = M + 1 := ⟨_, rfl⟩
  have hna : na ≤ M := by obtain ⟨_, _, _, ⟨_, e, _, _, e2, _⟩, _, h, _⟩ := HA.out; cases e; cases e2; exact h
  go_region_held3 (fun w' => w'.cell? ⟨w.heap.size, 0, none⟩ = some (.bool ba) ∧ w'.cell? ⟨w.heap.size, 1, none⟩ = some (.slice aa na ca)) (go_keep)
    (first
      | (refine step_append_lies _ (by rfl) _ _ 43 (by rfl) W8.drew.heap.size 57 i0 (.int .u32 0) 1 4 Try.underlying43 hi0 hz0 hz1 hz2 rfl (by decide) (.slice ao9 na cp9) na _ (by rfl) (World.ownsRow.alloc (w := w9) HC9.out.O.row _) ⟨w9.heap.size, 0, none⟩ 1 1 [.int .u32 0] (by rfl) rfl (cells_one w9 _ _) (fun u hu => by simp at hu; subst hu; rfl) (by decide) (by unfold maxLen; omega) (by omega) (by have := HC9.out.U.size; simp; exact Nat.le_succ_of_le this) (w9.heap.size + 1) (by simp) ?_; intro g10 cap10 w10 hown10 hgrow10 _ _; obtain ⟨R10, U10⟩ := HC9.out.app (W := W8.drew) (Below.refl _ _) (up_alloc w9 _) hown10 hgrow10; have V10 := HV8.out.up U10; obtain ⟨a100, a101, u100, u101⟩ := V10.ca; have HV10 := hide V10; have HR10 := hide R10; clear V10 R10 U10 hown10 hgrow10)
      | (refine step_append_lies _ (by rfl) _ _ 43 (by rfl) (W8.drew.alloc (.cells #[.int .u32 0] 57)).heap.size 57 i0 (.int .u32 0) 1 4 Try.underlying43 hi0 hz0 hz1 hz2 rfl (by decide) (.slice ao9 na cp9) na _ (by rfl) HC9.out.O.row ⟨W8.heap.size, 0, none⟩ 1 1 [.int .u32 0] (by rfl) rfl HCt.out (fun u hu => by simp at hu; subst hu; rfl) (by decide) (by unfold maxLen; omega) (by omega) HC9.out.U.size (w9.heap.size) rfl ?_; intro g10 cap10 w10 hown10 hgrow10 _ _; obtain ⟨R10, U10⟩ := HC9.out.app (W := W8.drew) (up_alloc _ _) (Below.refl _ _) hown10 hgrow10; have V10 := HV8.out.up U10; obtain ⟨a100, a101, u100, u101⟩ := V10.ca; have HV10 := hide V10; have HR10 := hide R10; clear V10 R10 U10 hown10 hgrow10)
      | (go_at_call 22; refine (copy_rd (w := W8.drew) (HRA.out _ HV8.out.U) (by omega)).mono ?_; rintro e w9 ⟨f9, ao9, cp9, rfl, C9⟩; have V9 := HV8.out.up C9.U; obtain ⟨a90, a91, u90, u91⟩ := V9.ca; have HV9 := hide V9; have HC9 := hide C9; clear V9 C9)
      | (go_at_call 22; refine (copy_rd (w := W8.drew.alloc (.cells #[.int .u32 0] 57)) (HRA.out _ (HV8.out.up (up_alloc _ _)).U) (by omega)).mono ?_; rintro e w9 ⟨f9, ao9, cp9, rfl, C9⟩; have V9 := HV8.out.up ((up_alloc _ _).tr C9.U); obtain ⟨a90, a91, u90, u91⟩ := V9.ca; have HCt := hide (ct_of C9.U); have HV9 := hide V9; have HC9 := hide C9; clear V9 C9)
      | (go_at_call 21; refine (number_any w10 sb hb X4 4000 0 n4 f4 st4 _ (M + 1) Za HV10.out.H HV10.out.S HV10.out.nX HR10.out (by omega) HLa.out (by have := HN4.out.most; omega)).mono ?_; rintro e w11 ⟨y, X11, n11, f11, st11, rfl, N11⟩; have V11 := HV10.out.numb N11; obtain ⟨a110, a111, u110, u111⟩ := V11.ca; have HN11 := hide N11; have HV11 := hide V11; clear V11 N11))
  all_goals
    clear HV8 a0 a1 u0 u1
    go_wp2_with (go_at_call 21; refine (number_any w11 sb hb X11 4000 0 n11 f11 st11 _ M Zu HV11.out.H HV11.out.S HV11.out.nX (HRU.out _ HV11.out.U) (by omega) HLu.out (by have := HN4.out.most; have := HN11.out.most; omega)).mono ?_; rintro e w12 ⟨z, X12, n12, f12, st12, rfl, N12⟩; have V12 := HV11.out.numb N12; have HN12 := hide N12; have HV12 := hide V12; clear V12 N12)
    obtain ⟨a0, a1, u0, u1⟩ := HV12.out.ca
    have NX : NumW n12 f12 st12 x Za := (HN4.out.N.old HN11.out.olds HN11.out.le).old HN12.out.olds HN12.out.le
    have NY : NumW n12 f12 st12 y Za := HN11.out.N.old HN12.out.olds HN12.out.le
    have NZ : NumW n12 f12 st12 z Zu := HN12.out.N
    have KE1 := fun (W : World) (h : VN w ba (.slice aa na ca) bu (.slice au nu cu) sb hb X12 n12 f12 st12 W) => eqv_num W sb hb X12 4000 0 n12 f12 st12 x y Za Za h.H h.S NX NY
    have KE2 := fun (W : World) (h : VN w ba (.slice aa na ca) bu (.slice au nu cu) sb hb X12 n12 f12 st12 W) => eqv_num W sb hb X12 4000 0 n12 f12 st12 x z Za Zu h.H h.S NX NZ
    have KC := fun (W : World) (h : VN w ba (.slice aa na ca) bu (.slice au nu cu) sb hb X12 n12 f12 st12 W) => r2cmp_rd (HRA.out W h.U) (HRU.out W h.U) (by omega)
    have KN := fun (W : World) (h : VN w ba (.slice aa na ca) bu (.slice au nu cu) sb hb X12 n12 f12 st12 W) => vnum_any W sb hb X12 4000 0 n12 f12 st12 x Za h.H h.S NX
    rw [show decide (Za = Za) = true from decide_eq_true rfl] at KE1
    obtain ⟨cz, hcz⟩ : ∃ cz, cz = cmpZ Za Zu := ⟨_, rfl⟩
    have hc0 := cmp_zero Za Zu
    rw [← hcz] at KC hc0
    generalize decide (Za = Zu) = dz at KE2 hc0
    have hdz : (dz != dz) = false := by simp
    have HKE1 := hide KE1
    have HKE2 := hide KE2
    have HKC := hide KC
    have HKN := hide KN
    have HV12d := hide (HV12.out.up (up_drew w12))
    clear KE1 KE2 KC KN NX NY NZ hcz HN4 HN11 HN12 HV4 HV11
    go_region_held3 (fun w' => w'.cell? ⟨w.heap.size, 0, none⟩ = some (.bool ba) ∧ w'.cell? ⟨w.heap.size, 1, none⟩ = some (.slice aa na ca) ∧ w'.cell? ⟨w.heap.size + 1, 0, none⟩ = some (.bool bu) ∧ w'.cell? ⟨w.heap.size + 1, 1, none⟩ = some (.slice au nu cu)) (go_keep)
      (first
        | (go_at_call_of 25 (Value.int .u64 (y : Int)); refine (HKE1.out _ HV12d.out).mono ?_; rintro e w13 ⟨rfl, q13, hq13⟩; have HV13 := hide (hq13 ▸ HV12d.out.up (up_drewN _ q13) : VN w ba (.slice aa na ca) bu (.slice au nu cu) sb hb X12 n12 f12 st12 w13); obtain ⟨a130, a131, u130, u131⟩ := HV13.out.ca; clear hq13)
        | (go_at_call_of 25 (Value.int .u64 (z : Int)); refine (HKE2.out _ HVc.out).mono ?_; rintro e w15 ⟨rfl, q15, hq15⟩; have HVf := hide (hq15 ▸ HVc.out.up (up_drewN _ q15) : VN w ba (.slice aa na ca) bu (.slice au nu cu) sb hb X12 n12 f12 st12 w15); obtain ⟨a150, a151, u150, u151⟩ := HVf.out.ca; clear hq15)
        | (go_at_call_of 25 (Value.int .u64 (z : Int)); refine (HKE2.out _ HV13.out).mono ?_; rintro e w14 ⟨rfl, q14, hq14⟩; have HVe := hide (hq14 ▸ HV13.out.up (up_drewN _ q14) : VN w ba (.slice aa na ca) bu (.slice au nu cu) sb hb X12 n12 f12 st12 w14); obtain ⟨a140, a141, u140, u141⟩ := HVe.out.ca; clear hq14)
        | (go_at_call 26; refine (HKC.out _ HVe.out).mono ?_; rintro e w15 ⟨v15, rfl, rfl, u15⟩; have HVf := hide (HVe.out.up u15); obtain ⟨a150, a151, u150, u151⟩ := HVf.out.ca; clear u15)
        | (go_at_call 26; refine (HKC.out _ HV13.out).mono ?_; rintro e w14 ⟨v14, rfl, rfl, u14⟩; have HVc := hide (HV13.out.up u14); obtain ⟨a140, a141, u140, u141⟩ := HVc.out.ca; clear u14))
    all_goals
      clear a0 a1 u0 u1 HV12 HV12d HV13 HKE1 HKE2 HKC a130 a131 u130 u131 a140 a141 u140 u141
      go_wp2_with (go_at_call 27; refine (HKN.out _ HVf.out).mono ?_; rintro e w16 ⟨v16, rfl, R16, u16⟩; obtain ⟨b16, ao16, n16, cp16, rfl⟩ := R16.form; have HV16 := hide ((HVf.out.up u16).up (up_alloc w16 (.cells #[.bool b16, .slice ao16 n16 cp16] 45))); have HR16 := hide (R16.upw (up_alloc w16 (.cells #[.bool b16, .slice ao16 n16 cp16] 45))); have g16 := heap_alloc_new w16 (.cells #[.bool b16, .slice ao16 n16 cp16] 45); clear R16 u16)
      obtain ⟨B16, hB16⟩ : ∃ B, B = w16.heap.size := ⟨_, rfl⟩
      rw [← hB16] at g16 ⊢
      clear hB16
      generalize w16.alloc (.cells #[.bool b16, .slice ao16 n16 cp16] 45) = W17 at *
      obtain ⟨_, _, d0, d1⟩ := fz2 g16
      obtain ⟨a0, a1, u0, u1⟩ := HV16.out.ca
      have HV17 := hide (HV16.out.up (up_drew W17))
      have HR17 := hide (HR16.out.upw (up_drew W17))
      clear g16 HVf HKN
      go_region_held3 (fun w' => w'.cell? ⟨w.heap.size, 0, none⟩ = some (.bool ba) ∧ w'.cell? ⟨w.heap.size, 1, none⟩ = some (.slice aa na ca) ∧ w'.cell? ⟨B16, 0, none⟩ = some (.bool b16) ∧ w'.cell? ⟨B16, 1, none⟩ = some (.slice ao16 n16 cp16)) (go_keep)
        (first
          | (go_at_call 23; refine (canon_near (HRA.out _ HV17.out.U) (by omega) HLa.out).mono ?_; rintro e w18 ⟨b18, ao18, n18, cap18, rfl, _, R18, u18⟩; have HV18 := hide (HV17.out.up u18); obtain ⟨a180, a181, _, _⟩ := HV18.out.ca; have d180 := (u18.fr.cell (b := B16) (o := 0) (World.block_lt_of_cell? _ _ d0) (fun e => e)).trans d0; have d181 := (u18.fr.cell (b := B16) (o := 1) (World.block_lt_of_cell? _ _ d1) (fun e => e)).trans d1; have HR18 := hide R18; have HR18b := hide (HR17.out.upw u18); clear R18 u18)
          | (go_at_call 28; refine (same_rdc HR18b.out HR18.out).mono ?_; rintro e w19 ⟨rfl, u19⟩; have HV19 := hide (HV18.out.up u19); obtain ⟨a190, a191, _, _⟩ := HV19.out.ca; have d190 := (u19.fr.cell (b := B16) (o := 0) (World.block_lt_of_cell? _ _ d180) (fun e => e)).trans d180; have d191 := (u19.fr.cell (b := B16) (o := 1) (World.block_lt_of_cell? _ _ d181) (fun e => e)).trans d181; clear u19)
          | (go_at_call 14; refine (vawake_any _).mono ?_; rintro e w20 ⟨rfl, F20⟩; have HV20 := hide (HV19.out.up F20.up); obtain ⟨a200, a201, _, _⟩ := HV20.out.ca; have d200 := (F20.cell (b := B16) (o := 0) (World.block_lt_of_cell? _ _ d190) (fun e => e)).trans d190; have d201 := (F20.cell (b := B16) (o := 1) (World.block_lt_of_cell? _ _ d191) (fun e => e)).trans d191; clear F20))
      go_wp2
      go_ret
      exact ⟨rfl, HV20.out.U⟩

theorem canon_far {Z : Int} {M : Nat} {w : World} {a : Value} (h : RdD Z M w a) (hM : 2 * M + 1 ≤ 10000000000) (hl : Far Z) :
    Calls Try.prog 23 #[a] w fun e w' => ∃ b ao n cap, e = .returned (.agg #[.bool b, .slice ao n cap]) ∧ 256 < n ∧ Up w w' := by
  refine (r2canon_rd h hM).mono fun e w' he => ?_
  obtain ⟨v, h1, ⟨b, n, f, ⟨v', rfl, k1⟩, k2, k3, k4⟩, h3⟩ := he
  obtain ⟨ao, cap, rfl, -⟩ := id k1.sl
  exact ⟨b, ao, n, cap, h1, hl _ _ _ k2 k4, h3⟩

set_option maxRecDepth 100000 in
set_option maxHeartbeats 4000000 in
theorem valueNumbers_far1 (ba bu : Bool) (aa au : Option Addr) (na nu ca cu M : Nat) (Za Zu : Int) (w : World) (ha : RdD Za M w (.agg #[.bool ba, .slice aa na ca])) (hu : RdD Zu M w (.agg #[.bool bu, .slice au nu cu])) (hM : M ≤ 2000000) (la : Far Za) :
    Calls Try.prog 5 #[.agg #[.bool ba, .slice aa na ca], .agg #[.bool bu, .slice au nu cu]] w fun e w' => e = .returned (.bool true) ∧ Below w.heap.size w w' := by
  have KNew := fun w1 => vnew_ok 4000 w1 (by decide) (by decide)
  have HA := hide ha
  have HU := hide hu
  have HLa := hide la
  clear ha hu la
  go_enter Try.func5, Try.ntmps5
  go_wp2_with (first
    | (go_at_call 15; refine (KNew _).mono ?_; rintro e w1 ⟨sb, hb, X, mb, rfl, St, _, hX, _, _, F1⟩; have V1 := VN.start St hX F1; have HV1 := hide V1; obtain ⟨a0, a1, u0, u1⟩ := V1.ca; have s1 := V1.S; clear V1 St hX F1)
    | (go_at_call 20; refine (used_any _ _ _ _ _ _ _ _ HV1.out.H).mono ?_; rintro e w2 ⟨rfl, q2, rfl⟩))
  have V2 := HV1.out.up (up_drewN w1 q2)
  generalize w1.drewN q2 = W2 at *
  clear HV1 a0 a1 u0 u1 s1
  have V2d := V2.up (up_drew W2)
  obtain ⟨a0, a1, u0, u1⟩ := V2.ca
  have HV2 := hide V2d
  have HRa := fun (W : World) (h : Below w.heap.size w W) => HA.out.up h
  have HRu := fun (W : World) (h : Below w.heap.size w W) => HU.out.up h
  have HRA := hide HRa
  have HRU := hide HRu
  clear V2 V2d HRa HRu
  go_region_held3 (fun w' => w'.cell? ⟨w.heap.size, 0, none⟩ = some (.bool ba) ∧ w'.cell? ⟨w.heap.size, 1, none⟩ = some (.slice aa na ca)) (go_keep)
    (first
      | (go_at_call 22; refine (copy_rd (HRA.out _ HV2.out.U) (by omega)).mono ?_; rintro e w3 ⟨f3, ao3, cp3, rfl, C3⟩; have V3 := HV2.out.up C3.U; obtain ⟨a30, a31, u30, u31⟩ := V3.ca; have HV3 := hide V3; have HC3 := hide C3; clear V3 C3)
      | (go_at_call 21; refine (number_far w3 sb hb X 4000 0 1 _ _ _ M Za HV3.out.H HC3.out.rd (by omega) (far_big HC3.out.rd HLa.out) HLa.out).mono ?_; rintro e w4 ⟨rfl, _, F4⟩; have V4 := HV3.out.up F4.up; obtain ⟨a40, a41, u40, u41⟩ := V4.ca; have HV4 := hide V4; clear V4 F4))
  clear a0 a1 u0 u1 a30 a31 u30 u31
  have hs4 := HV4.out.S
  have hfl := field1
  go_wp2_with (first
    | (go_at_call 23; refine (canon_far (HRA.out _ HV4.out.U) (by omega) HLa.out).mono ?_; rintro e w5 ⟨b5, ao5, n5, cap5, rfl, h5, u5⟩; have V5 := HV4.out.up u5; clear u5; obtain ⟨a50, a51, u50, u51⟩ := V5.ca; have s5 := V5.S; have HV5 := hide V5; clear V5; have g5 : (256 : Int) < (n5 : Int) := (by omega))
    | (go_at_call 20; refine (used_any _ _ _ _ _ _ _ _ HV5.out.H).mono ?_; rintro e w8 ⟨rfl, q8, rfl⟩; have HV8 := hide (HV5.out.up (up_drewN w5 q8)))
    | (go_at_call 14; refine (vawake_any _).mono ?_; rintro e w20 ⟨rfl, F20⟩; have HV20 := hide (HV8.out.up F20.up); clear F20))
  go_ret
  exact ⟨rfl, HV20.out.U⟩

set_option maxRecDepth 100000 in
set_option maxHeartbeats 4000000 in
theorem valueNumbers_far2 (ba bu : Bool) (aa au : Option Addr) (na nu ca cu M : Nat) (Za Zu : Int) (w : World) (ha : RdD Za M w (.agg #[.bool ba, .slice aa na ca])) (hu : RdD Zu M w (.agg #[.bool bu, .slice au nu cu])) (hM : M ≤ 2000000) (la : Lim Za) (lu : Far Zu) :
    Calls Try.prog 5 #[.agg #[.bool ba, .slice aa na ca], .agg #[.bool bu, .slice au nu cu]] w fun e w' => e = .returned (.bool true) ∧ Below w.heap.size w w' := by
  have KNew := fun w1 => vnew_ok 4000 w1 (by decide) (by decide)
  have HA := hide ha
  have HU := hide hu
  have HLa := hide la
  have HLu := hide lu
  clear ha hu la lu
  go_enter Try.func5, Try.ntmps5
  go_wp2_with (first
    | (go_at_call 15; refine (KNew _).mono ?_; rintro e w1 ⟨sb, hb, X, mb, rfl, St, _, hX, _, _, F1⟩; have V1 := VN.start St hX F1; have HV1 := hide V1; obtain ⟨a0, a1, u0, u1⟩ := V1.ca; have s1 := V1.S; clear V1 St hX F1)
    | (go_at_call 20; refine (used_any _ _ _ _ _ _ _ _ HV1.out.H).mono ?_; rintro e w2 ⟨rfl, q2, rfl⟩))
  have V2 := HV1.out.up (up_drewN w1 q2)
  generalize w1.drewN q2 = W2 at *
  clear HV1 a0 a1 u0 u1 s1
  have V2d := V2.up (up_drew W2)
  obtain ⟨a0, a1, u0, u1⟩ := V2.ca
  have HV2 := hide V2d
  have HRa := fun (W : World) (h : Below w.heap.size w W) => HA.out.up h
  have HRu := fun (W : World) (h : Below w.heap.size w W) => HU.out.up h
  have HRA := hide HRa
  have HRU := hide HRu
  clear V2 V2d HRa HRu
  go_region_held3 (fun w' => w'.cell? ⟨w.heap.size, 0, none⟩ = some (.bool ba) ∧ w'.cell? ⟨w.heap.size, 1, none⟩ = some (.slice aa na ca)) (go_keep)
    (first
      | (go_at_call 22; refine (copy_rd (HRA.out _ HV2.out.U) (by omega)).mono ?_; rintro e w3 ⟨f3, ao3, cp3, rfl, C3⟩; have V3 := HV2.out.up C3.U; obtain ⟨a30, a31, u30, u31⟩ := V3.ca; have HV3 := hide V3; have HC3 := hide C3; clear V3 C3)
      | (go_at_call 21; refine (number_any w3 sb hb X 4000 0 1 _ _ _ M Za HV3.out.H HV3.out.S HV3.out.nX HC3.out.rd (by omega) HLa.out (by decide)).mono ?_; rintro e w4 ⟨x, X4, n4, f4, st4, rfl, N4⟩; have V4 := HV3.out.numb N4; obtain ⟨a40, a41, u40, u41⟩ := V4.ca; have HN4 := hide N4; have HV4 := hide V4; clear V4 N4))
  clear a0 a1 u0 u1 a30 a31 u30 u31
  have hs4 := HV4.out.S
  have hfl := field1
  go_wp2_with (first
    | (go_at_call_of 23 (Value.agg #[Value.bool ba, Value.slice aa na ca]); refine (canon_near (HRA.out _ HV4.out.U) (by omega) HLa.out).mono ?_; rintro e w5 ⟨b5, ao5, n5, cap5, rfl, h5, _, u5⟩; have V5 := HV4.out.up u5; clear u5; obtain ⟨a50, a51, u50, u51⟩ := V5.ca; have s5 := V5.S; have HV5 := hide V5; clear V5; have g5 : ¬ (256 : Int) < (n5 : Int) := (by omega))
    | (go_at_call_of 23 (Value.agg #[Value.bool bu, Value.slice au nu cu]); refine (canon_far (HRU.out _ HV5.out.U) (by omega) HLu.out).mono ?_; rintro e w6 ⟨b6, ao6, n6, cap6, rfl, h6, u6⟩; have V6 := HV5.out.up u6; clear u6; obtain ⟨a60, a61, u60, u61⟩ := V6.ca; have s6 := V6.S; have HV6 := hide V6; clear V6; have g6 : (256 : Int) < (n6 : Int) := (by omega))
    | (go_at_call 14; refine (vawake_any _).mono ?_; rintro e w20 ⟨rfl, F20⟩; have HV20 := hide (HV6.out.up F20.up); clear F20))
  go_ret
  exact ⟨rfl, HV20.out.U⟩

theorem valueNumbers_any (a u : Value) (b1 b2 : Bool) (n1 n2 : Nat) (f1 f2 : Nat → Nat) (w : World) (ha : Nm w a b1 n1 f1) (hu : Nm w u b2 n2 f2) (d1 : ∀ i, i < n1 → f1 i < 4294967296) (d2 : ∀ i, i < n2 → f2 i < 4294967296) (l1 : n1 ≤ 1048576) (l2 : n2 ≤ 1048576) :
    Calls Try.prog 5 #[a, u] w fun e w' => e = .returned (.bool true) ∧ Below w.heap.size w w' := by
  have Ra : RdD (sgn b1 (num 4294967296 f1 n1)) 1048576 w a := ⟨b1, n1, f1, ha, d1, l1, rfl⟩
  have Ru : RdD (sgn b2 (num 4294967296 f2 n2)) 1048576 w u := ⟨b2, n2, f2, hu, d2, l2, rfl⟩
  obtain ⟨va, rfl, sa⟩ := ha
  obtain ⟨vu, rfl, su⟩ := hu
  obtain ⟨aa, ca, rfl, -⟩ := id sa
  obtain ⟨au, cu, rfl, -⟩ := id su
  rcases lim_or Ra with la | la
  · rcases lim_or Ru with lu | lu
    · exact valueNumbers_near b1 b2 aa au n1 n2 ca cu 1048576 _ _ w Ra Ru (by decide) la lu
    · exact valueNumbers_far2 b1 b2 aa au n1 n2 ca cu 1048576 _ _ w Ra Ru (by decide) la lu
  · exact valueNumbers_far1 b1 b2 aa au n1 n2 ca cu 1048576 _ _ w Ra Ru (by decide) la

end Go.Proofs.Ytchdfenickjiiaa
