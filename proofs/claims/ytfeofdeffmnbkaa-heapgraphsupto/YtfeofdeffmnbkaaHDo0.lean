/-
  What is proved here: tandemlaw03's do, of the kinds 0 (Alloc): both heaps answer alike.
-/
import Derived.Test.YtfeofdeffmnbkaaHDo
import Derived.BigQuiet
import Derived.Deep.RegionHeld3
import Derived.Deep.AppendLies
namespace Go.Proofs.Ytfeofdeffmnbkaa
open Go Go.RowKit

set_option maxRecDepth 20000 in
set_option maxHeartbeats 20000000 in
theorem do0_false (B : Nat) (w : World) (ob hb rb sz : Nat) (tm : Int) (n : Nat) (f : Nat → Nat) (st : Nat → Bool) (m : Nat) (o : Nat → Nat) (k a b c : Int) (y : Nat) (vR : Value) (l : Nat) (h : OnAt B w ob hb rb sz tm n f st m o) (hB : B ≤ w.heap.size)
    (hk1 : -9223372036854775808 ≤ k) (hk2 : k ≤ 9223372036854775807) (ha1 : -9223372036854775808 ≤ a) (ha2 : a ≤ 9223372036854775807) (_hy : y < 18446744073709551616) (hk : (k % ((7 : Nat) : Int)).toNat = 0) (hm : m + 1 ≤ 17592186044416) :
    Calls Try.prog 13 #[.pointer (some ⟨ob, 0, none⟩), .agg #[.int .i64 k, .int .i64 a, .int .i64 b, .int .i64 c, .int .u64 (y : Int), .bool false, vR]] w fun e w' => DoEnd B w ob hb rb sz l tm n f st m o e w' := by
  obtain ⟨X, Y, vO, h, bX, bY, bo, bO⟩ := h
  obtain ⟨x, hx⟩ : ∃ x, pk m o a = x := ⟨_, rfl⟩
  have hxl : x < 18446744073709551616 := hx ▸ pk_lt h.ol a
  have KL := place_at k 0 hk hk1 hk2
  have hnX : Hid (¬ X w.heap.size) := hide fun e => by have := h.H.lt e; omega
  have hnY : Hid (¬ Y w.heap.size) := hide fun e => by have := h.R.lt e; omega
  have HO := hide h
  have HX := hide hx
  obtain ⟨iW, hiW, hz0, hz1, hz2⟩ := info_parts infoW
  obtain ⟨gv, gb, n2, f2, st2, hstep, hgl, KH, KR⟩ := alloc_both sz n f st a b c
  have hgv : Hid (gv < 18446744073709551616) := hide (hgl (Nat.le_trans h.H.good.2.2.1 h.H.good.2.2.2))
  have hne : ((gv : Int) != (gv : Int)) = false := by simp
  have HSt := hide hstep
  have HXY := hide h.XY
  clear h hx hxl hk hstep hgl
  go_enter Try.func13, Try.ntmps13
  go_wp2_with (first
    | (go_at_call 16; refine (pick_at _ ob hb X rb Y vO sz tm n f st m o a x HX.out (HO.out.fr (ofDrew ⟨0, rfl⟩) (fun _ _ e => e)) ha1 ha2).mono ?_; rintro e w1 ⟨rfl, hq⟩; have cx0 := boxCell hq 0 _ rfl; have cx1 := boxCell hq 1 _ rfl; have cx2 := boxCell hq 2 _ rfl; have cx3 := boxCell hq 3 _ rfl; have HF := hide (ofDrew hq); have hbl : Hid (w.heap.size < w1.heap.size) := hide (boxLt hq); have HN := hide (HO.out.fr HF.out (fun _ _ e => e)); have co0 := HN.out.cells.1; have co1 := HN.out.cells.2.1; have co2 := HN.out.cells.2.2; clear hq)
    | (go_at_call 22; refine (KL _).mono ?_; rintro e w9 ⟨rfl, hw⟩; replace hw := hw.symm; subst hw))
  have HL : Hid (ob < w1.heap.size ∧ w.heap.size < w1.heap.size) := hide ⟨HN.out.lt, hbl.out⟩
  clear co2 cx0
  go_region_held3 (fun w' => w'.cell? ⟨ob, 0, none⟩ = some (.pointer (some ⟨hb, 0, none⟩)) ∧ w'.cell? ⟨w.heap.size, 1, none⟩ = some (.int .i64 a) ∧ w'.cell? ⟨w.heap.size, 2, none⟩ = some (.int .i64 b) ∧ w'.cell? ⟨w.heap.size, 3, none⟩ = some (.int .i64 c)) (go_keep)
    ((go_at_call 24; refine (KH _ hb X tm (HN.out.H.drewN 1)).mono ?_; rintro e w2 ⟨rfl, X2, H2, G2, F2⟩; have co02 := (F2.cell HL.out.1 (HN.out.oX)).trans co0; have co12 := (F2.cell HL.out.1 (HN.out.oX)).trans co1; have cx12 := (F2.cell HL.out.2 (hnX.out)).trans cx1; have cx22 := (F2.cell HL.out.2 (hnX.out)).trans cx2; have cx32 := (F2.cell HL.out.2 (hnX.out)).trans cx3; have HL2 : Hid (ob < w2.heap.size ∧ w.heap.size < w2.heap.size) := hide ⟨Nat.lt_of_lt_of_le HL.out.1 F2.size, Nat.lt_of_lt_of_le HL.out.2 F2.size⟩; have HH2 := hide H2; have FH2 := hide F2; have HG2 := hide G2; clear H2 F2 G2))
  clear co0 co1 cx1 cx2 cx3 co02
  go_wp2
  go_region_held3 (fun w' => w'.cell? ⟨ob, 1, none⟩ = some (.pointer (some ⟨rb, 0, none⟩)) ∧ w'.cell? ⟨w.heap.size, 1, none⟩ = some (.int .i64 a) ∧ w'.cell? ⟨w.heap.size, 2, none⟩ = some (.int .i64 b) ∧ w'.cell? ⟨w.heap.size, 3, none⟩ = some (.int .i64 c)) (go_keep)
    ((go_at_call 36; refine (KR _ rb Y tm ((HN.out.R.fr (Fr.trans ((Fr.refl _ w1).drew) FH2.out (fun _ _ e => e)) (fun k hk e => HXY.out k e hk)).drewN 1)).mono ?_; rintro e w3 ⟨rfl, Y2, R3, G3, F3⟩; have cx13 := (F3.cell HL2.out.2 hnY.out).trans cx12; have cx23 := (F3.cell HL2.out.2 hnY.out).trans cx22; have cx33 := (F3.cell HL2.out.2 hnY.out).trans cx32; have co13 := (F3.cell HL2.out.1 HN.out.oY).trans co12; have HE := hide (HN.out.layHR FH2.out HH2.out HG2.out F3 R3 G3); clear R3 F3 G3))
  clear co12 cx12 cx22 cx32 cx13 cx23 cx33 co13
  have HB3 : Hid (B ≤ w3.heap.size) := hide (Nat.le_trans hB (Nat.le_trans HF.out.size HE.out.2.1.size))
  have hX2 : Hid (∀ k, X2 k → B ≤ k) := hide (HE.out.2.2.1.ge bX (Nat.le_trans hB HF.out.size))
  have hY2 : Hid (∀ k, Y2 k → B ≤ k) := hide (HE.out.2.2.2.ge bY (Nat.le_trans hB HF.out.size))
  have HFW : Hid (Fr (fun k => B ≤ k) w w3) := hide (HF.out.some.on (HE.out.2.1.mono (fun k _ e => by rcases e with e | e; exact bX k e; exact bY k e)))
  cases gb with
  | false =>
    go_wp2
    go_ret
    exact ⟨rfl, tm, n2, f2, st2, m, o, ⟨X2, Y2, vO, HE.out.1, hX2.out, hY2.out, bo, bO⟩, HFW.out, .inr (.inl ⟨rfl, gv, false, HSt.out, .inl ⟨rfl, rfl, rfl⟩⟩)⟩
  | true =>
    have d2 := HE.out.1.cells.2.2
    have hown := HE.out.1.O.row
    obtain ⟨aoO, capO, rfl⟩ := HE.out.1.O.shape
    go_wp2_with (at_builtin; refine wpList_append_lies _ rfl _ _ 28 rfl 0 33 iW (.int .u64 0) 1 8 Try.underlying28 hiW hz0 hz1 hz2 rfl (by decide) _ m _ rfl (hown.alloc _) ⟨w3.heap.size, 0, none⟩ 1 1 [.int .u64 gv] rfl rfl (hcells_one _ _ _) (fun u hu => by simp at hu; subst hu; rfl) (by decide) (by unfold maxLen; omega) (by omega) (by simp) (w3.heap.size + 1) (by simp) ?_; intro g5 cap5 w5 hown5 hgrow5 hat5 hlt5; have F5 : Fr (fun j => (Value.slice aoO m capO).ownBlock = some j) w3 w5 := ((Fr.refl _ w3).alloc _).grow hgrow5 (fun k _ e => e); have S5 := lies_stays (n := m + 1) (cap := cap5) (H := w3.heap.size) hat5 (by omega); obtain ⟨q1, q2, M5⟩ := HE.out.1.put F5 (Own.snoc hown5) S5 (upd_lt HE.out.1.ol hgv.out) hm; have HM5 := hide M5; have HF5 := hide F5; have HS5 := hide S5; clear M5 F5 S5 hown5 hgrow5 hat5 hlt5)
    go_ret
    exact ⟨rfl, tm, n2, f2, st2, m + 1, upd o m gv, ⟨X2, Y2, _, HM5.out, hX2.out, hY2.out, bo, fun g hg => by rcases HS5.out g hg with e | e; exact bO g e; exact Nat.le_trans HB3.out e⟩, (HFW.out.on (HF5.out.mono (fun k _ e => bO k e))).setCell (fun _ => bo) _ _, .inr (.inl ⟨rfl, gv, true, HSt.out, .inr ⟨rfl, rfl, rfl⟩⟩)⟩

set_option maxRecDepth 20000 in
set_option maxHeartbeats 20000000 in
theorem do0_true (B : Nat) (w : World) (ob hb rb sz : Nat) (tm : Int) (n : Nat) (f : Nat → Nat) (st : Nat → Bool) (m : Nat) (o : Nat → Nat) (k a b c : Int) (y : Nat) (vR : Value) (l : Nat) (h : OnAt B w ob hb rb sz tm n f st m o) (hB : B ≤ w.heap.size)
    (hk1 : -9223372036854775808 ≤ k) (hk2 : k ≤ 9223372036854775807) (ha1 : -9223372036854775808 ≤ a) (ha2 : a ≤ 9223372036854775807) (hc1 : -9223372036854775808 ≤ c) (hc2 : c ≤ 9223372036854775807) (_hy : y < 18446744073709551616) (hk : (k % ((7 : Nat) : Int)).toNat = 0) (hm : m + 1 ≤ 17592186044416) :
    Calls Try.prog 13 #[.pointer (some ⟨ob, 0, none⟩), .agg #[.int .i64 k, .int .i64 a, .int .i64 b, .int .i64 c, .int .u64 (y : Int), .bool true, vR]] w fun e w' => DoEnd B w ob hb rb sz l tm n f st m o e w' := by
  obtain ⟨X, Y, vO, h, bX, bY, bo, bO⟩ := h
  obtain ⟨x, hx⟩ : ∃ x, pk m o a = x := ⟨_, rfl⟩
  have hxl : x < 18446744073709551616 := hx ▸ pk_lt h.ol a
  obtain ⟨x2, hx2⟩ : ∃ x, pk m o c = x := ⟨_, rfl⟩
  have hxl2 : x2 < 18446744073709551616 := hx2 ▸ pk_lt h.ol c
  have KL := place_at k 0 hk hk1 hk2
  have hnX : Hid (¬ X w.heap.size) := hide fun e => by have := h.H.lt e; omega
  have hnY : Hid (¬ Y w.heap.size) := hide fun e => by have := h.R.lt e; omega
  have HO := hide h
  have HX := hide hx
  have HX2 := hide hx2
  obtain ⟨iW, hiW, hz0, hz1, hz2⟩ := info_parts infoW
  obtain ⟨gv, gb, n2, f2, st2, hstep, hgl, KH, KR⟩ := alloc_both sz n f st a b c
  have hgv : Hid (gv < 18446744073709551616) := hide (hgl (Nat.le_trans h.H.good.2.2.1 h.H.good.2.2.2))
  have hne : ((gv : Int) != (gv : Int)) = false := by simp
  have HSt := hide hstep
  have HXY := hide h.XY
  clear h hx hxl hk hstep hgl hx2 hxl2
  go_enter Try.func13, Try.ntmps13
  go_wp2_with (first
    | (go_at_call 16; refine (pick_at _ ob hb X rb Y vO sz tm n f st m o a x HX.out (HO.out.fr (ofDrew HQ.out) (fun _ _ e => e)) ha1 ha2).mono ?_; rintro e w1 ⟨rfl, hq'⟩; have hq := drew_more HQ.out hq'; clear cx0 cx1 hq' HQ; have cx0 := boxCell hq 0 _ rfl; have cx1 := boxCell hq 1 _ rfl; have cx2 := boxCell hq 2 _ rfl; have cx3 := boxCell hq 3 _ rfl; have HF := hide (ofDrew hq); have hbl : Hid (w.heap.size < w1.heap.size) := hide (boxLt hq); have HN := hide (HO.out.fr HF.out (fun _ _ e => e)); have co0 := HN.out.cells.1; have co1 := HN.out.cells.2.1; have co2 := HN.out.cells.2.2; clear hq)
    | (go_at_call 16; refine (pick_at _ ob hb X rb Y vO sz tm n f st m o c x2 HX2.out (HO.out.fr (ofDrew ⟨0, rfl⟩) (fun _ _ e => e)) hc1 hc2).mono ?_; rintro e w0 ⟨rfl, hq⟩; have cx0 := boxCell hq 0 _ rfl; have cx1 := boxCell hq 1 _ rfl; have HQ := hide hq; clear hq)
    | (go_at_call 22; refine (KL _).mono ?_; rintro e w9 ⟨rfl, hw⟩; replace hw := hw.symm; subst hw))
  have HL : Hid (ob < w1.heap.size ∧ w.heap.size < w1.heap.size) := hide ⟨HN.out.lt, hbl.out⟩
  clear co2 cx0
  go_region_held3 (fun w' => w'.cell? ⟨ob, 0, none⟩ = some (.pointer (some ⟨hb, 0, none⟩)) ∧ w'.cell? ⟨w.heap.size, 1, none⟩ = some (.int .i64 a) ∧ w'.cell? ⟨w.heap.size, 2, none⟩ = some (.int .i64 b) ∧ w'.cell? ⟨w.heap.size, 3, none⟩ = some (.int .i64 c)) (go_keep)
    ((go_at_call 24; refine (KH _ hb X tm (HN.out.H.drewN 1)).mono ?_; rintro e w2 ⟨rfl, X2, H2, G2, F2⟩; have co02 := (F2.cell HL.out.1 (HN.out.oX)).trans co0; have co12 := (F2.cell HL.out.1 (HN.out.oX)).trans co1; have cx12 := (F2.cell HL.out.2 (hnX.out)).trans cx1; have cx22 := (F2.cell HL.out.2 (hnX.out)).trans cx2; have cx32 := (F2.cell HL.out.2 (hnX.out)).trans cx3; have HL2 : Hid (ob < w2.heap.size ∧ w.heap.size < w2.heap.size) := hide ⟨Nat.lt_of_lt_of_le HL.out.1 F2.size, Nat.lt_of_lt_of_le HL.out.2 F2.size⟩; have HH2 := hide H2; have FH2 := hide F2; have HG2 := hide G2; clear H2 F2 G2))
  clear co0 co1 cx1 cx2 cx3 co02
  go_wp2
  go_region_held3 (fun w' => w'.cell? ⟨ob, 1, none⟩ = some (.pointer (some ⟨rb, 0, none⟩)) ∧ w'.cell? ⟨w.heap.size, 1, none⟩ = some (.int .i64 a) ∧ w'.cell? ⟨w.heap.size, 2, none⟩ = some (.int .i64 b) ∧ w'.cell? ⟨w.heap.size, 3, none⟩ = some (.int .i64 c)) (go_keep)
    ((go_at_call 36; refine (KR _ rb Y tm ((HN.out.R.fr (Fr.trans ((Fr.refl _ w1).drew) FH2.out (fun _ _ e => e)) (fun k hk e => HXY.out k e hk)).drewN 1)).mono ?_; rintro e w3 ⟨rfl, Y2, R3, G3, F3⟩; have cx13 := (F3.cell HL2.out.2 hnY.out).trans cx12; have cx23 := (F3.cell HL2.out.2 hnY.out).trans cx22; have cx33 := (F3.cell HL2.out.2 hnY.out).trans cx32; have co13 := (F3.cell HL2.out.1 HN.out.oY).trans co12; have HE := hide (HN.out.layHR FH2.out HH2.out HG2.out F3 R3 G3); clear R3 F3 G3))
  clear co12 cx12 cx22 cx32 cx13 cx23 cx33 co13
  have HB3 : Hid (B ≤ w3.heap.size) := hide (Nat.le_trans hB (Nat.le_trans HF.out.size HE.out.2.1.size))
  have hX2 : Hid (∀ k, X2 k → B ≤ k) := hide (HE.out.2.2.1.ge bX (Nat.le_trans hB HF.out.size))
  have hY2 : Hid (∀ k, Y2 k → B ≤ k) := hide (HE.out.2.2.2.ge bY (Nat.le_trans hB HF.out.size))
  have HFW : Hid (Fr (fun k => B ≤ k) w w3) := hide (HF.out.some.on (HE.out.2.1.mono (fun k _ e => by rcases e with e | e; exact bX k e; exact bY k e)))
  cases gb with
  | false =>
    go_wp2
    go_ret
    exact ⟨rfl, tm, n2, f2, st2, m, o, ⟨X2, Y2, vO, HE.out.1, hX2.out, hY2.out, bo, bO⟩, HFW.out, .inr (.inl ⟨rfl, gv, false, HSt.out, .inl ⟨rfl, rfl, rfl⟩⟩)⟩
  | true =>
    have d2 := HE.out.1.cells.2.2
    have hown := HE.out.1.O.row
    obtain ⟨aoO, capO, rfl⟩ := HE.out.1.O.shape
    go_wp2_with (at_builtin; refine wpList_append_lies _ rfl _ _ 28 rfl 0 33 iW (.int .u64 0) 1 8 Try.underlying28 hiW hz0 hz1 hz2 rfl (by decide) _ m _ rfl (hown.alloc _) ⟨w3.heap.size, 0, none⟩ 1 1 [.int .u64 gv] rfl rfl (hcells_one _ _ _) (fun u hu => by simp at hu; subst hu; rfl) (by decide) (by unfold maxLen; omega) (by omega) (by simp) (w3.heap.size + 1) (by simp) ?_; intro g5 cap5 w5 hown5 hgrow5 hat5 hlt5; have F5 : Fr (fun j => (Value.slice aoO m capO).ownBlock = some j) w3 w5 := ((Fr.refl _ w3).alloc _).grow hgrow5 (fun k _ e => e); have S5 := lies_stays (n := m + 1) (cap := cap5) (H := w3.heap.size) hat5 (by omega); obtain ⟨q1, q2, M5⟩ := HE.out.1.put F5 (Own.snoc hown5) S5 (upd_lt HE.out.1.ol hgv.out) hm; have HM5 := hide M5; have HF5 := hide F5; have HS5 := hide S5; clear M5 F5 S5 hown5 hgrow5 hat5 hlt5)
    go_ret
    exact ⟨rfl, tm, n2, f2, st2, m + 1, upd o m gv, ⟨X2, Y2, _, HM5.out, hX2.out, hY2.out, bo, fun g hg => by rcases HS5.out g hg with e | e; exact bO g e; exact Nat.le_trans HB3.out e⟩, (HFW.out.on (HF5.out.mono (fun k _ e => bO k e))).setCell (fun _ => bo) _ _, .inr (.inl ⟨rfl, gv, true, HSt.out, .inr ⟨rfl, rfl, rfl⟩⟩)⟩

end Go.Proofs.Ytfeofdeffmnbkaa
