/-
  What is proved here: tandemlaw03's do, of the kinds 1 and 2 (Set, SetRaw): both heaps answer alike.
-/
import Derived.Test.YtfeofdeffmnbkaaHDo
import Derived.BigQuiet
import Derived.Deep.RegionHeld3
import Derived.Deep.AppendLies
namespace Go.Proofs.Ytfeofdeffmnbkaa
open Go Go.RowKit

set_option maxRecDepth 20000 in
set_option maxHeartbeats 20000000 in
theorem do1_false (B : Nat) (w : World) (ob hb rb sz : Nat) (tm : Int) (n : Nat) (f : Nat → Nat) (st : Nat → Bool) (m : Nat) (o : Nat → Nat) (k a b c : Int) (y : Nat) (vR : Value) (l : Nat) (h : OnAt B w ob hb rb sz tm n f st m o) (_hB : B ≤ w.heap.size)
    (hk1 : -9223372036854775808 ≤ k) (hk2 : k ≤ 9223372036854775807) (ha1 : -9223372036854775808 ≤ a) (ha2 : a ≤ 9223372036854775807) (hy : y < 18446744073709551616) (hk : (k % ((7 : Nat) : Int)).toNat = 1) :
    Calls Try.prog 13 #[.pointer (some ⟨ob, 0, none⟩), .agg #[.int .i64 k, .int .i64 a, .int .i64 b, .int .i64 c, .int .u64 (y : Int), .bool false, vR]] w fun e w' => DoEnd B w ob hb rb sz l tm n f st m o e w' := by
  obtain ⟨X, Y, vO, h, bX, bY, bo, bO⟩ := h
  obtain ⟨x, hx⟩ : ∃ x, pk m o a = x := ⟨_, rfl⟩
  have hxl : x < 18446744073709551616 := hx ▸ pk_lt h.ol a
  have KL := place_at k 1 hk hk1 hk2
  have hnX : Hid (¬ X w.heap.size) := hide fun e => by have := h.H.lt e; omega
  have hnY : Hid (¬ Y w.heap.size) := hide fun e => by have := h.R.lt e; omega
  have HO := hide h
  have HX := hide hx
  obtain ⟨gb, f2, hstep, KH, KR⟩ := set_both n f st x b y hxl hy
  have HSt := hide hstep
  have HXY := hide h.XY
  have hbb : (gb == gb) = true := by simp
  clear h hx hxl hk hstep
  go_enter Try.func13, Try.ntmps13
  go_wp2_with (first
    | (go_at_call 16; refine (pick_at _ ob hb X rb Y vO sz tm n f st m o a x HX.out (HO.out.fr (ofDrew ⟨0, rfl⟩) (fun _ _ e => e)) ha1 ha2).mono ?_; rintro e w1 ⟨rfl, hq⟩; have cx0 := boxCell hq 0 _ rfl; have cx2 := boxCell hq 2 _ rfl; have HF := hide (ofDrew hq); have hbl : Hid (w.heap.size < w1.heap.size) := hide (boxLt hq); have HN := hide (HO.out.fr HF.out (fun _ _ e => e)); have co0 := HN.out.cells.1; have co1 := HN.out.cells.2.1; have co2 := HN.out.cells.2.2; clear hq)
    | (go_at_call 22; refine (KL _).mono ?_; rintro e w9 ⟨rfl, hw⟩; replace hw := hw.symm; subst hw))
  have HL : Hid (ob < w1.heap.size ∧ w.heap.size < w1.heap.size) := hide ⟨HN.out.lt, hbl.out⟩
  clear co2 cx0
  go_region_held3 (fun w' => w'.cell? ⟨ob, 0, none⟩ = some (.pointer (some ⟨hb, 0, none⟩)) ∧ w'.cell? ⟨ob, 1, none⟩ = some (.pointer (some ⟨rb, 0, none⟩)) ∧ w'.cell? ⟨w.heap.size, 2, none⟩ = some (.int .i64 b)) (go_keep)
    (first
      | (go_at_call 30; refine (KH _ hb X sz tm (HN.out.H.fr (Fr.trans ((Fr.refl _ w1).drew) FR2.out (fun _ _ e => e)) (fun k hk e => HXY.out k hk e))).mono ?_; rintro e w3 ⟨rfl, H3, F3⟩; have co03 := (F3.cell HL2.out.1 (HN.out.oX)).trans co02; have co13 := (F3.cell HL2.out.1 (HN.out.oX)).trans co12; have cx23 := (F3.cell HL2.out.2 (hnX.out)).trans cx22; have HE := hide (HN.out.setRH FR2.out HR2.out F3 H3); clear H3 F3)
      | (go_at_call 37; refine (KR _ rb Y sz tm (HN.out.R.fr (Fr.trans ((Fr.refl _ w1).drew) FH2.out (fun _ _ e => e)) (fun k hk e => HXY.out k e hk))).mono ?_; rintro e w3 ⟨rfl, R3, F3⟩; have co03 := (F3.cell HL2.out.1 (HN.out.oY)).trans co02; have co13 := (F3.cell HL2.out.1 (HN.out.oY)).trans co12; have cx23 := (F3.cell HL2.out.2 (hnY.out)).trans cx22; have HE := hide (HN.out.setHR FH2.out HH2.out F3 R3); clear R3 F3)
      | (go_at_call 30; refine (KH _ hb X sz tm (HN.out.H.drewN 1)).mono ?_; rintro e w2 ⟨rfl, H2, F2⟩; have co02 := (F2.cell HL.out.1 (HN.out.oX)).trans co0; have co12 := (F2.cell HL.out.1 (HN.out.oX)).trans co1; have cx22 := (F2.cell HL.out.2 (hnX.out)).trans cx2; have HL2 : Hid (ob < w2.heap.size ∧ w.heap.size < w2.heap.size) := hide ⟨Nat.lt_of_lt_of_le HL.out.1 F2.size, Nat.lt_of_lt_of_le HL.out.2 F2.size⟩; have HH2 := hide H2; have FH2 := hide F2; clear H2 F2)
      | (go_at_call 37; refine (KR _ rb Y sz tm (HN.out.R.drewN 1)).mono ?_; rintro e w2 ⟨rfl, R2, F2⟩; have co02 := (F2.cell HL.out.1 (HN.out.oY)).trans co0; have co12 := (F2.cell HL.out.1 (HN.out.oY)).trans co1; have cx22 := (F2.cell HL.out.2 (hnY.out)).trans cx2; have HL2 : Hid (ob < w2.heap.size ∧ w.heap.size < w2.heap.size) := hide ⟨Nat.lt_of_lt_of_le HL.out.1 F2.size, Nat.lt_of_lt_of_le HL.out.2 F2.size⟩; have HR2 := hide R2; have FR2 := hide F2; clear R2 F2))
  all_goals
    go_wp2
    go_ret
    exact ⟨rfl, tm, n, f2, st, m, o, ⟨X, Y, vO, HE.out.1, bX, bY, bo, bO⟩, HF.out.some.on (HE.out.2.mono (fun k _ e => by rcases e with e | e; exact bX k e; exact bY k e)), .inl ⟨rfl, rfl, rfl, rfl, rfl, .inl HSt.out⟩⟩

set_option maxRecDepth 20000 in
set_option maxHeartbeats 20000000 in
theorem do1_true (B : Nat) (w : World) (ob hb rb sz : Nat) (tm : Int) (n : Nat) (f : Nat → Nat) (st : Nat → Bool) (m : Nat) (o : Nat → Nat) (k a b c : Int) (y : Nat) (vR : Value) (l : Nat) (h : OnAt B w ob hb rb sz tm n f st m o) (_hB : B ≤ w.heap.size)
    (hk1 : -9223372036854775808 ≤ k) (hk2 : k ≤ 9223372036854775807) (ha1 : -9223372036854775808 ≤ a) (ha2 : a ≤ 9223372036854775807) (hc1 : -9223372036854775808 ≤ c) (hc2 : c ≤ 9223372036854775807) (_hy : y < 18446744073709551616) (hk : (k % ((7 : Nat) : Int)).toNat = 1) :
    Calls Try.prog 13 #[.pointer (some ⟨ob, 0, none⟩), .agg #[.int .i64 k, .int .i64 a, .int .i64 b, .int .i64 c, .int .u64 (y : Int), .bool true, vR]] w fun e w' => DoEnd B w ob hb rb sz l tm n f st m o e w' := by
  obtain ⟨X, Y, vO, h, bX, bY, bo, bO⟩ := h
  obtain ⟨x, hx⟩ : ∃ x, pk m o a = x := ⟨_, rfl⟩
  have hxl : x < 18446744073709551616 := hx ▸ pk_lt h.ol a
  obtain ⟨x2, hx2⟩ : ∃ x, pk m o c = x := ⟨_, rfl⟩
  have hxl2 : x2 < 18446744073709551616 := hx2 ▸ pk_lt h.ol c
  have KL := place_at k 1 hk hk1 hk2
  have hnX : Hid (¬ X w.heap.size) := hide fun e => by have := h.H.lt e; omega
  have hnY : Hid (¬ Y w.heap.size) := hide fun e => by have := h.R.lt e; omega
  have HO := hide h
  have HX := hide hx
  have HX2 := hide hx2
  obtain ⟨gb, f2, hstep, KH, KR⟩ := set_both n f st x b x2 hxl hxl2
  have HSt := hide hstep
  have HXY := hide h.XY
  have hbb : (gb == gb) = true := by simp
  clear h hx hxl hk hstep hx2 hxl2
  go_enter Try.func13, Try.ntmps13
  go_wp2_with (first
    | (go_at_call 16; refine (pick_at _ ob hb X rb Y vO sz tm n f st m o a x HX.out (HO.out.fr (ofDrew HQ.out) (fun _ _ e => e)) ha1 ha2).mono ?_; rintro e w1 ⟨rfl, hq'⟩; have hq := drew_more HQ.out hq'; clear cx0 cx1 hq' HQ; have cx0 := boxCell hq 0 _ rfl; have cx2 := boxCell hq 2 _ rfl; have HF := hide (ofDrew hq); have hbl : Hid (w.heap.size < w1.heap.size) := hide (boxLt hq); have HN := hide (HO.out.fr HF.out (fun _ _ e => e)); have co0 := HN.out.cells.1; have co1 := HN.out.cells.2.1; have co2 := HN.out.cells.2.2; clear hq)
    | (go_at_call 16; refine (pick_at _ ob hb X rb Y vO sz tm n f st m o c x2 HX2.out (HO.out.fr (ofDrew ⟨0, rfl⟩) (fun _ _ e => e)) hc1 hc2).mono ?_; rintro e w0 ⟨rfl, hq⟩; have cx0 := boxCell hq 0 _ rfl; have cx1 := boxCell hq 1 _ rfl; have HQ := hide hq; clear hq)
    | (go_at_call 22; refine (KL _).mono ?_; rintro e w9 ⟨rfl, hw⟩; replace hw := hw.symm; subst hw))
  have HL : Hid (ob < w1.heap.size ∧ w.heap.size < w1.heap.size) := hide ⟨HN.out.lt, hbl.out⟩
  clear co2 cx0
  go_region_held3 (fun w' => w'.cell? ⟨ob, 0, none⟩ = some (.pointer (some ⟨hb, 0, none⟩)) ∧ w'.cell? ⟨ob, 1, none⟩ = some (.pointer (some ⟨rb, 0, none⟩)) ∧ w'.cell? ⟨w.heap.size, 2, none⟩ = some (.int .i64 b)) (go_keep)
    (first
      | (go_at_call 30; refine (KH _ hb X sz tm (HN.out.H.fr (Fr.trans ((Fr.refl _ w1).drew) FR2.out (fun _ _ e => e)) (fun k hk e => HXY.out k hk e))).mono ?_; rintro e w3 ⟨rfl, H3, F3⟩; have co03 := (F3.cell HL2.out.1 (HN.out.oX)).trans co02; have co13 := (F3.cell HL2.out.1 (HN.out.oX)).trans co12; have cx23 := (F3.cell HL2.out.2 (hnX.out)).trans cx22; have HE := hide (HN.out.setRH FR2.out HR2.out F3 H3); clear H3 F3)
      | (go_at_call 37; refine (KR _ rb Y sz tm (HN.out.R.fr (Fr.trans ((Fr.refl _ w1).drew) FH2.out (fun _ _ e => e)) (fun k hk e => HXY.out k e hk))).mono ?_; rintro e w3 ⟨rfl, R3, F3⟩; have co03 := (F3.cell HL2.out.1 (HN.out.oY)).trans co02; have co13 := (F3.cell HL2.out.1 (HN.out.oY)).trans co12; have cx23 := (F3.cell HL2.out.2 (hnY.out)).trans cx22; have HE := hide (HN.out.setHR FH2.out HH2.out F3 R3); clear R3 F3)
      | (go_at_call 30; refine (KH _ hb X sz tm (HN.out.H.drewN 1)).mono ?_; rintro e w2 ⟨rfl, H2, F2⟩; have co02 := (F2.cell HL.out.1 (HN.out.oX)).trans co0; have co12 := (F2.cell HL.out.1 (HN.out.oX)).trans co1; have cx22 := (F2.cell HL.out.2 (hnX.out)).trans cx2; have HL2 : Hid (ob < w2.heap.size ∧ w.heap.size < w2.heap.size) := hide ⟨Nat.lt_of_lt_of_le HL.out.1 F2.size, Nat.lt_of_lt_of_le HL.out.2 F2.size⟩; have HH2 := hide H2; have FH2 := hide F2; clear H2 F2)
      | (go_at_call 37; refine (KR _ rb Y sz tm (HN.out.R.drewN 1)).mono ?_; rintro e w2 ⟨rfl, R2, F2⟩; have co02 := (F2.cell HL.out.1 (HN.out.oY)).trans co0; have co12 := (F2.cell HL.out.1 (HN.out.oY)).trans co1; have cx22 := (F2.cell HL.out.2 (hnY.out)).trans cx2; have HL2 : Hid (ob < w2.heap.size ∧ w.heap.size < w2.heap.size) := hide ⟨Nat.lt_of_lt_of_le HL.out.1 F2.size, Nat.lt_of_lt_of_le HL.out.2 F2.size⟩; have HR2 := hide R2; have FR2 := hide F2; clear R2 F2))
  all_goals
    go_wp2
    go_ret
    exact ⟨rfl, tm, n, f2, st, m, o, ⟨X, Y, vO, HE.out.1, bX, bY, bo, bO⟩, HF.out.some.on (HE.out.2.mono (fun k _ e => by rcases e with e | e; exact bX k e; exact bY k e)), .inl ⟨rfl, rfl, rfl, rfl, rfl, .inl HSt.out⟩⟩

set_option maxRecDepth 20000 in
set_option maxHeartbeats 20000000 in
theorem do2_false (B : Nat) (w : World) (ob hb rb sz : Nat) (tm : Int) (n : Nat) (f : Nat → Nat) (st : Nat → Bool) (m : Nat) (o : Nat → Nat) (k a b c : Int) (y : Nat) (vR : Value) (l : Nat) (h : OnAt B w ob hb rb sz tm n f st m o) (_hB : B ≤ w.heap.size)
    (hk1 : -9223372036854775808 ≤ k) (hk2 : k ≤ 9223372036854775807) (ha1 : -9223372036854775808 ≤ a) (ha2 : a ≤ 9223372036854775807) (hy : y < 18446744073709551616) (hk : (k % ((7 : Nat) : Int)).toNat = 2) :
    Calls Try.prog 13 #[.pointer (some ⟨ob, 0, none⟩), .agg #[.int .i64 k, .int .i64 a, .int .i64 b, .int .i64 c, .int .u64 (y : Int), .bool false, vR]] w fun e w' => DoEnd B w ob hb rb sz l tm n f st m o e w' := by
  obtain ⟨X, Y, vO, h, bX, bY, bo, bO⟩ := h
  obtain ⟨x, hx⟩ : ∃ x, pk m o a = x := ⟨_, rfl⟩
  have hxl : x < 18446744073709551616 := hx ▸ pk_lt h.ol a
  have KL := place_at k 2 hk hk1 hk2
  have hnX : Hid (¬ X w.heap.size) := hide fun e => by have := h.H.lt e; omega
  have hnY : Hid (¬ Y w.heap.size) := hide fun e => by have := h.R.lt e; omega
  have HO := hide h
  have HX := hide hx
  obtain ⟨gb, f2, hstep, KH, KR⟩ := setRaw_both n f st x b y hxl hy
  have HSt := hide hstep
  have HXY := hide h.XY
  have hbb : (gb == gb) = true := by simp
  clear h hx hxl hk hstep
  go_enter Try.func13, Try.ntmps13
  go_wp2_with (first
    | (go_at_call 16; refine (pick_at _ ob hb X rb Y vO sz tm n f st m o a x HX.out (HO.out.fr (ofDrew ⟨0, rfl⟩) (fun _ _ e => e)) ha1 ha2).mono ?_; rintro e w1 ⟨rfl, hq⟩; have cx0 := boxCell hq 0 _ rfl; have cx2 := boxCell hq 2 _ rfl; have cx4 := boxCell hq 4 _ rfl; have HF := hide (ofDrew hq); have hbl : Hid (w.heap.size < w1.heap.size) := hide (boxLt hq); have HN := hide (HO.out.fr HF.out (fun _ _ e => e)); have co0 := HN.out.cells.1; have co1 := HN.out.cells.2.1; have co2 := HN.out.cells.2.2; clear hq)
    | (go_at_call 22; refine (KL _).mono ?_; rintro e w9 ⟨rfl, hw⟩; replace hw := hw.symm; subst hw))
  have HL : Hid (ob < w1.heap.size ∧ w.heap.size < w1.heap.size) := hide ⟨HN.out.lt, hbl.out⟩
  clear co2 cx0
  go_region_held3 (fun w' => w'.cell? ⟨ob, 0, none⟩ = some (.pointer (some ⟨hb, 0, none⟩)) ∧ w'.cell? ⟨ob, 1, none⟩ = some (.pointer (some ⟨rb, 0, none⟩)) ∧ w'.cell? ⟨w.heap.size, 2, none⟩ = some (.int .i64 b) ∧ w'.cell? ⟨w.heap.size, 4, none⟩ = some (.int .u64 (y : Int))) (go_keep)
    (first
      | (go_at_call 31; refine (KH _ hb X sz tm (HN.out.H.fr (Fr.trans ((Fr.refl _ w1).drew) FR2.out (fun _ _ e => e)) (fun k hk e => HXY.out k hk e))).mono ?_; rintro e w3 ⟨rfl, H3, F3⟩; have co03 := (F3.cell HL2.out.1 (HN.out.oX)).trans co02; have co13 := (F3.cell HL2.out.1 (HN.out.oX)).trans co12; have cx23 := (F3.cell HL2.out.2 (hnX.out)).trans cx22; have cx43 := (F3.cell HL2.out.2 (hnX.out)).trans cx42; have HE := hide (HN.out.setRH FR2.out HR2.out F3 H3); clear H3 F3)
      | (go_at_call 38; refine (KR _ rb Y sz tm (HN.out.R.fr (Fr.trans ((Fr.refl _ w1).drew) FH2.out (fun _ _ e => e)) (fun k hk e => HXY.out k e hk))).mono ?_; rintro e w3 ⟨rfl, R3, F3⟩; have co03 := (F3.cell HL2.out.1 (HN.out.oY)).trans co02; have co13 := (F3.cell HL2.out.1 (HN.out.oY)).trans co12; have cx23 := (F3.cell HL2.out.2 (hnY.out)).trans cx22; have cx43 := (F3.cell HL2.out.2 (hnY.out)).trans cx42; have HE := hide (HN.out.setHR FH2.out HH2.out F3 R3); clear R3 F3)
      | (go_at_call 31; refine (KH _ hb X sz tm (HN.out.H.drewN 1)).mono ?_; rintro e w2 ⟨rfl, H2, F2⟩; have co02 := (F2.cell HL.out.1 (HN.out.oX)).trans co0; have co12 := (F2.cell HL.out.1 (HN.out.oX)).trans co1; have cx22 := (F2.cell HL.out.2 (hnX.out)).trans cx2; have cx42 := (F2.cell HL.out.2 (hnX.out)).trans cx4; have HL2 : Hid (ob < w2.heap.size ∧ w.heap.size < w2.heap.size) := hide ⟨Nat.lt_of_lt_of_le HL.out.1 F2.size, Nat.lt_of_lt_of_le HL.out.2 F2.size⟩; have HH2 := hide H2; have FH2 := hide F2; clear H2 F2)
      | (go_at_call 38; refine (KR _ rb Y sz tm (HN.out.R.drewN 1)).mono ?_; rintro e w2 ⟨rfl, R2, F2⟩; have co02 := (F2.cell HL.out.1 (HN.out.oY)).trans co0; have co12 := (F2.cell HL.out.1 (HN.out.oY)).trans co1; have cx22 := (F2.cell HL.out.2 (hnY.out)).trans cx2; have cx42 := (F2.cell HL.out.2 (hnY.out)).trans cx4; have HL2 : Hid (ob < w2.heap.size ∧ w.heap.size < w2.heap.size) := hide ⟨Nat.lt_of_lt_of_le HL.out.1 F2.size, Nat.lt_of_lt_of_le HL.out.2 F2.size⟩; have HR2 := hide R2; have FR2 := hide F2; clear R2 F2))
  all_goals
    go_wp2
    go_ret
    exact ⟨rfl, tm, n, f2, st, m, o, ⟨X, Y, vO, HE.out.1, bX, bY, bo, bO⟩, HF.out.some.on (HE.out.2.mono (fun k _ e => by rcases e with e | e; exact bX k e; exact bY k e)), .inl ⟨rfl, rfl, rfl, rfl, rfl, .inr HSt.out⟩⟩

set_option maxRecDepth 20000 in
set_option maxHeartbeats 20000000 in
theorem do2_true (B : Nat) (w : World) (ob hb rb sz : Nat) (tm : Int) (n : Nat) (f : Nat → Nat) (st : Nat → Bool) (m : Nat) (o : Nat → Nat) (k a b c : Int) (y : Nat) (vR : Value) (l : Nat) (h : OnAt B w ob hb rb sz tm n f st m o) (_hB : B ≤ w.heap.size)
    (hk1 : -9223372036854775808 ≤ k) (hk2 : k ≤ 9223372036854775807) (ha1 : -9223372036854775808 ≤ a) (ha2 : a ≤ 9223372036854775807) (hc1 : -9223372036854775808 ≤ c) (hc2 : c ≤ 9223372036854775807) (hy : y < 18446744073709551616) (hk : (k % ((7 : Nat) : Int)).toNat = 2) :
    Calls Try.prog 13 #[.pointer (some ⟨ob, 0, none⟩), .agg #[.int .i64 k, .int .i64 a, .int .i64 b, .int .i64 c, .int .u64 (y : Int), .bool true, vR]] w fun e w' => DoEnd B w ob hb rb sz l tm n f st m o e w' := by
  obtain ⟨X, Y, vO, h, bX, bY, bo, bO⟩ := h
  obtain ⟨x, hx⟩ : ∃ x, pk m o a = x := ⟨_, rfl⟩
  have hxl : x < 18446744073709551616 := hx ▸ pk_lt h.ol a
  obtain ⟨x2, hx2⟩ : ∃ x, pk m o c = x := ⟨_, rfl⟩
  have hxl2 : x2 < 18446744073709551616 := hx2 ▸ pk_lt h.ol c
  have KL := place_at k 2 hk hk1 hk2
  have hnX : Hid (¬ X w.heap.size) := hide fun e => by have := h.H.lt e; omega
  have hnY : Hid (¬ Y w.heap.size) := hide fun e => by have := h.R.lt e; omega
  have HO := hide h
  have HX := hide hx
  have HX2 := hide hx2
  obtain ⟨gb, f2, hstep, KH, KR⟩ := setRaw_both n f st x b y hxl hy
  have HSt := hide hstep
  have HXY := hide h.XY
  have hbb : (gb == gb) = true := by simp
  clear h hx hxl hk hstep hx2 hxl2
  go_enter Try.func13, Try.ntmps13
  go_wp2_with (first
    | (go_at_call 16; refine (pick_at _ ob hb X rb Y vO sz tm n f st m o a x HX.out (HO.out.fr (ofDrew HQ.out) (fun _ _ e => e)) ha1 ha2).mono ?_; rintro e w1 ⟨rfl, hq'⟩; have hq := drew_more HQ.out hq'; clear cx0 cx1 hq' HQ; have cx0 := boxCell hq 0 _ rfl; have cx2 := boxCell hq 2 _ rfl; have cx4 := boxCell hq 4 _ rfl; have HF := hide (ofDrew hq); have hbl : Hid (w.heap.size < w1.heap.size) := hide (boxLt hq); have HN := hide (HO.out.fr HF.out (fun _ _ e => e)); have co0 := HN.out.cells.1; have co1 := HN.out.cells.2.1; have co2 := HN.out.cells.2.2; clear hq)
    | (go_at_call 16; refine (pick_at _ ob hb X rb Y vO sz tm n f st m o c x2 HX2.out (HO.out.fr (ofDrew ⟨0, rfl⟩) (fun _ _ e => e)) hc1 hc2).mono ?_; rintro e w0 ⟨rfl, hq⟩; have cx0 := boxCell hq 0 _ rfl; have cx1 := boxCell hq 1 _ rfl; have HQ := hide hq; clear hq)
    | (go_at_call 22; refine (KL _).mono ?_; rintro e w9 ⟨rfl, hw⟩; replace hw := hw.symm; subst hw))
  have HL : Hid (ob < w1.heap.size ∧ w.heap.size < w1.heap.size) := hide ⟨HN.out.lt, hbl.out⟩
  clear co2 cx0
  go_region_held3 (fun w' => w'.cell? ⟨ob, 0, none⟩ = some (.pointer (some ⟨hb, 0, none⟩)) ∧ w'.cell? ⟨ob, 1, none⟩ = some (.pointer (some ⟨rb, 0, none⟩)) ∧ w'.cell? ⟨w.heap.size, 2, none⟩ = some (.int .i64 b) ∧ w'.cell? ⟨w.heap.size, 4, none⟩ = some (.int .u64 (y : Int))) (go_keep)
    (first
      | (go_at_call 31; refine (KH _ hb X sz tm (HN.out.H.fr (Fr.trans ((Fr.refl _ w1).drew) FR2.out (fun _ _ e => e)) (fun k hk e => HXY.out k hk e))).mono ?_; rintro e w3 ⟨rfl, H3, F3⟩; have co03 := (F3.cell HL2.out.1 (HN.out.oX)).trans co02; have co13 := (F3.cell HL2.out.1 (HN.out.oX)).trans co12; have cx23 := (F3.cell HL2.out.2 (hnX.out)).trans cx22; have cx43 := (F3.cell HL2.out.2 (hnX.out)).trans cx42; have HE := hide (HN.out.setRH FR2.out HR2.out F3 H3); clear H3 F3)
      | (go_at_call 38; refine (KR _ rb Y sz tm (HN.out.R.fr (Fr.trans ((Fr.refl _ w1).drew) FH2.out (fun _ _ e => e)) (fun k hk e => HXY.out k e hk))).mono ?_; rintro e w3 ⟨rfl, R3, F3⟩; have co03 := (F3.cell HL2.out.1 (HN.out.oY)).trans co02; have co13 := (F3.cell HL2.out.1 (HN.out.oY)).trans co12; have cx23 := (F3.cell HL2.out.2 (hnY.out)).trans cx22; have cx43 := (F3.cell HL2.out.2 (hnY.out)).trans cx42; have HE := hide (HN.out.setHR FH2.out HH2.out F3 R3); clear R3 F3)
      | (go_at_call 31; refine (KH _ hb X sz tm (HN.out.H.drewN 1)).mono ?_; rintro e w2 ⟨rfl, H2, F2⟩; have co02 := (F2.cell HL.out.1 (HN.out.oX)).trans co0; have co12 := (F2.cell HL.out.1 (HN.out.oX)).trans co1; have cx22 := (F2.cell HL.out.2 (hnX.out)).trans cx2; have cx42 := (F2.cell HL.out.2 (hnX.out)).trans cx4; have HL2 : Hid (ob < w2.heap.size ∧ w.heap.size < w2.heap.size) := hide ⟨Nat.lt_of_lt_of_le HL.out.1 F2.size, Nat.lt_of_lt_of_le HL.out.2 F2.size⟩; have HH2 := hide H2; have FH2 := hide F2; clear H2 F2)
      | (go_at_call 38; refine (KR _ rb Y sz tm (HN.out.R.drewN 1)).mono ?_; rintro e w2 ⟨rfl, R2, F2⟩; have co02 := (F2.cell HL.out.1 (HN.out.oY)).trans co0; have co12 := (F2.cell HL.out.1 (HN.out.oY)).trans co1; have cx22 := (F2.cell HL.out.2 (hnY.out)).trans cx2; have cx42 := (F2.cell HL.out.2 (hnY.out)).trans cx4; have HL2 : Hid (ob < w2.heap.size ∧ w.heap.size < w2.heap.size) := hide ⟨Nat.lt_of_lt_of_le HL.out.1 F2.size, Nat.lt_of_lt_of_le HL.out.2 F2.size⟩; have HR2 := hide R2; have FR2 := hide F2; clear R2 F2))
  all_goals
    go_wp2
    go_ret
    exact ⟨rfl, tm, n, f2, st, m, o, ⟨X, Y, vO, HE.out.1, bX, bY, bo, bO⟩, HF.out.some.on (HE.out.2.mono (fun k _ e => by rcases e with e | e; exact bX k e; exact bY k e)), .inl ⟨rfl, rfl, rfl, rfl, rfl, .inr HSt.out⟩⟩

end Go.Proofs.Ytfeofdeffmnbkaa
