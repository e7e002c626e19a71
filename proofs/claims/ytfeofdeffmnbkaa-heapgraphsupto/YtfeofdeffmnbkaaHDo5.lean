/-
  What is proved here: tandemlaw03's do, of the kinds 5 (Collect): both heaps answer alike.
-/
import Derived.Test.YtfeofdeffmnbkaaHColl5
import Derived.BigQuiet
import Derived.Deep.RegionHeld3
import Derived.Deep.AppendLies
namespace Go.Proofs.Ytfeofdeffmnbkaa
open Go Go.RowKit

set_option maxRecDepth 20000 in
set_option maxHeartbeats 60000000 in
theorem do5_false (B : Nat) (w : World) (ob hb rb sz : Nat) (tm : Int) (n : Nat) (f : Nat → Nat) (st : Nat → Bool) (m : Nat) (o : Nat → Nat) (k a b c : Int) (y : Nat) (vR : Value) (l : Nat) (h : OnAt B w ob hb rb sz tm n f st m o) (hB : B ≤ w.heap.size)
    (hk1 : -9223372036854775808 ≤ k) (hk2 : k ≤ 9223372036854775807) (ha1 : -9223372036854775808 ≤ a) (ha2 : a ≤ 9223372036854775807) (hy : y < 18446744073709551616) (htm1 : 0 ≤ tm) (htm2 : tm ≤ 4611686018427387904) (g : Nat → Int) (hR : SlI .i64 w vR l g) (hg : ∀ i, i < l → -9223372036854775808 ≤ g i ∧ g i ≤ 9223372036854775807) (hl : l ≤ 17592186044415) (hk : (k % ((7 : Nat) : Int)).toNat = 5) :
    Calls Try.prog 13 #[.pointer (some ⟨ob, 0, none⟩), .agg #[.int .i64 k, .int .i64 a, .int .i64 b, .int .i64 c, .int .u64 (y : Int), .bool false, vR]] w fun e w' => DoEnd B w ob hb rb sz l tm n f st m o e w' := by
  obtain ⟨X, Y, vO, h, bX, bY, bo, bO⟩ := h
  obtain ⟨x, hx⟩ : ∃ x, pk m o a = x := ⟨_, rfl⟩
  have hxl : x < 18446744073709551616 := hx ▸ pk_lt h.ol a
  have KL := place_at k 5 hk hk1 hk2
  have hnX : Hid (¬ X w.heap.size) := hide fun e => by have := h.H.lt e; omega
  have hnY : Hid (¬ Y w.heap.size) := hide fun e => by have := h.R.lt e; omega
  have HO := hide h
  have HX := hide hx
  obtain ⟨iW, hiW, hz0, hz1, hz2⟩ := info_parts infoW
  obtain ⟨aoR, capR, rfl, hRc, hRc2, hRr⟩ := hR
  obtain ⟨r, hr1, hr2, hr3⟩ := roots_of h.ol g l y hy
  have hrrl0 : Hid (∀ i, i < l + 1 → mvV f st (r i) (rootsS f st r i MS.zero) < 18446744073709551616) := hide fun i hi => mvV_lt (MSok.roots h.H.good.1 h.H.good.2.1 r i) h.H.good.1 h.H.good.2.1 (Nat.le_trans h.H.good.2.2.1 h.H.good.2.2.2) (hr3 i hi)
  have HRr := hide hRr
  have Hr1 := hide hr1
  have Hr2 := hide hr2
  have Hr3 := hide hr3
  have Hg := hide hg
  clear h hx hxl hk hRr hr1 hr2 hr3 hg
  go_enter Try.func13, Try.ntmps13
  go_wp2_with (first
    | (go_at_call 16; refine (pick_at _ ob hb X rb Y vO sz tm n f st m o a x HX.out (HO.out.fr (ofDrew ⟨0, rfl⟩) (fun _ _ e => e)) ha1 ha2).mono ?_; rintro e w1 ⟨rfl, hq⟩; have cx0 := boxCell hq 0 _ rfl; have cx4 := boxCell hq 4 _ rfl; have cx6 := boxCell hq 6 _ rfl; have HF := hide (ofDrew hq); have hbl : Hid (w.heap.size < w1.heap.size) := hide (boxLt hq); have HN := hide (HO.out.fr HF.out (fun _ _ e => e)); have co0 := HN.out.cells.1; have co1 := HN.out.cells.2.1; have co2 := HN.out.cells.2.2; clear hq)
    | (go_at_call 22; refine (KL _).mono ?_; rintro e w9 ⟨rfl, hw⟩; replace hw := hw.symm; subst hw))
  have HL : Hid (ob < w1.heap.size ∧ w.heap.size < w1.heap.size) := hide ⟨HN.out.lt, hbl.out⟩
  clear cx0 co2
  go_loopw [19, 20] (fun a19 a20 wr => ∃ j : Nat, j ≤ l ∧ a20 = .int .i64 (j : Int) ∧ Own .u64 33 wr w1.heap.size a19 j r ∧ Fr (fun _ => False) w1 wr) (fun _ a20 _ => l - (intOf a20).toNat)
  case atStart => exact ⟨0, Nat.zero_le _, rfl, .inl ⟨rfl, rfl⟩, Fr.refl _ _⟩
  case round =>
    obtain ⟨j, hj, rfl, hS, hFr⟩ := hrel
    have cx6r := (hFr.cell (o := 6) HL.out.2 (fun e => e)).trans cx6
    have cx4r := (hFr.cell (o := 4) HL.out.2 (fun e => e)).trans cx4
    have HFr := hide hFr
    have hszr : Hid (w1.heap.size ≤ wr.heap.size) := hide hFr.size
    by_cases hlt : j < l
    · obtain ⟨bR, offR, rfl, hRr⟩ : ∃ b off, aoR = some ⟨b, off, none⟩ ∧ ∀ i, i < l → w.cell? ⟨b, off + i, none⟩ = some (.int .i64 (g i)) := by
        rcases HRr.out with e | e
        · omega
        · exact e
      have cR := ((Fr.trans HF.out hFr (fun _ _ e => e)).cell (o := offR + j) (World.block_lt_of_cell? _ _ (hRr j hlt)) (fun e => e)).trans (hRr j hlt)
      have hpk := Hr1.out j hlt
      have hgj := Hg.out j hlt
      generalize g j = gj at *
      obtain ⟨p, hp⟩ : ∃ p, p = r j := ⟨_, rfl⟩
      rw [← hp] at hpk
      have HP := hide hp
      have HPK := hide hpk
      have HS := hide hS
      obtain ⟨aoS, capS, rfl⟩ := hS.shape
      have hgj1 := hgj.1
      have hgj2 := hgj.2
      clear hRr hp hpk hS hFr HRr hgj
      go_wp2_with (first
        | (go_at_call 16; refine (pick_at _ ob hb X rb Y vO sz tm n f st m o gj p HPK.out (HN.out.fr HFr.out (fun _ _ e => e)) hgj1 hgj2).mono ?_; rintro e w2 ⟨rfl, hq2⟩; have F2 := drewFr hq2; have HF2 := hide F2; have hown := (HS.out.fr F2 (fun _ _ e => e)).row; clear F2 hq2)
        | (at_builtin; refine wpList_append_lies _ rfl _ _ 28 rfl w1.heap.size 33 iW (.int .u64 0) 1 8 Try.underlying28 hiW hz0 hz1 hz2 rfl (by decide) _ j _ rfl (hown.alloc _) ⟨w2.heap.size, 0, none⟩ 1 1 [.int .u64 p] rfl rfl (hcells_one _ _ _) (fun u hu => by simp at hu; subst hu; rfl) (by decide) (by unfold maxLen; omega) (by omega) (by have := hszr.out; have := HF2.out.size; simp; omega) (w2.heap.size + 1) (by simp) ?_; intro g5 cap5 w5 hown5 hgrow5 hat5 hlt5))
      have F5 : Fr (fun i => (Value.slice aoS j capS).ownBlock = some i) w2 w5 := ((Fr.refl _ w2).alloc _).grow hgrow5 (fun k _ e => e)
      refine ⟨⟨j + 1, by omega, by go_num, Own.snocF hown5 HP.out.symm, Fr.trans (Fr.trans HFr.out HF2.out (fun _ _ e => e)) F5 (fun k hk e => by have := HS.out.ge e; omega)⟩, ?_⟩
      simp [intOf]
      omega
    · have hjl : l = j := by omega
      subst hjl
      have HS := hide hS
      obtain ⟨aoS, capS, rfl⟩ := hS.shape
      have hown := hS.row
      have HC : ∃ n2 f2 st2 rr, n2 = (collS n f st r (l + 1)).n ∧ f2 = (collS n f st r (l + 1)).f ∧ st2 = (collS n f st r (l + 1)).st ∧ rr = (fun k => mvV f st (r k) (rootsS f st r k MS.zero)) := ⟨_, _, _, _, rfl, rfl, rfl, rfl⟩
      obtain ⟨n2, f2, st2, rr, hn2, hf2, hst2, hrr⟩ := HC
      have KC := fun w6 ao6 cap6 => collect_any w6 hb X sz tm n f st ao6 (l + 1) cap6 r
      have KD := fun w7 ao5 cap5 => rcollect_any w7 rb Y sz tm n f st ao5 (l + 1) cap5 r
      rw [← hn2, ← hf2, ← hst2, ← hrr] at KC KD
      have hrrl : Hid (∀ i, i < l + 1 → rr i < 18446744073709551616) := by rw [hrr]; exact hrrl0
      have HKC := hide KC
      have HKD := hide KD
      have HC := hide (And.intro hn2 (And.intro hf2 hst2))
      clear hS hFr hlt hj KC KD hn2 hf2 hst2 hrr
      go_wp2_with (first
        | (go_at_call 21; refine (sameW_any ao6 (some ⟨g5, 0, none⟩) (l + 1) cap6 cap5 r _ S9.out.q6.rdl S9.out.q5.rdl (by omega)).mono ?_; rintro e w10 ⟨rfl, F10⟩; have S10 := S9.out.fr F10; obtain ⟨d2, fz2, HP2⟩ := S10.E.put (vO2 := .slice none 0 0) (m2 := 0) (o2 := fun _ => 0) (Fr.refl _ _) (.inl ⟨rfl, rfl⟩) (fun g hg => by cases hg) (fun i hi => by omega) (by omega); have HPP := hide HP2; have HS10 := hide S10; clear S10 HP2 F10 S9)
        | (go_at_call 21; refine (sameW_any (some ⟨gm, 0, none⟩) ao8 (l + 1) (l + 1) cap8 rr _ S8.out.row.rd HQ8.out.rdl (by omega)).mono ?_; rintro e w9 ⟨rfl, F9⟩; have S9 := hide (S8.out.fr F9); clear F9 S8)
        | (go_at_call 41; refine (HKD.out w7 (some ⟨g5, 0, none⟩) cap5 (S7.out.ref HN.out) htm1 htm2 (S7.out.hr HN.out).1 Hr3.out (by omega) (S7.out.hr HN.out).2.1 (S7.out.hr HN.out).2.2).mono ?_; rintro e w8 ⟨v8, rfl, Q8, Y2, nY8, R8, G8, F8⟩; obtain ⟨ao8, cap8, rfl⟩ := Q8.shape; have HQ8 := hide Q8; have S8 := hide (S7.out.eight HN.out R8 G8 F8); clear Q8 nY8 R8 G8 F8)
        | (go_at_call 18; refine (HKC.out w6 ao6 cap6 (HN.out.H.fr S6.out.F (fun _ _ e => e)) htm1 htm2 (S6.out.hr HN.out).1 Hr3.out (by omega) (S6.out.hr HN.out).2.1 (S6.out.hr HN.out).2.2).mono ?_; rintro e w7 ⟨gm, X2, rfl, hgm, R7, nX7, H7, G7, F7⟩; have S7 := hide (S6.out.seven HN.out hgm R7 nX7 H7 G7 F7); have co17 := (F7.cell (Nat.lt_of_lt_of_le HL.out.1 S6.out.F.size) HN.out.oX).trans co16; clear hgm R7 nX7 H7 G7 F7 co06 co16)
        | (go_at_call 20; refine (copyW_any g5 0 (l + 1) cap5 r w5 HC5.out (by omega)).mono ?_; rintro e w6 ⟨v6, rfl, Q6, F6⟩; obtain ⟨ao6, cap6, rfl⟩ := Q6.shape; have S6 := hide (St6.mk5 HF5.out HQ5.out Q6 F6); have co06 := (S6.out.F.cell (o := 0) HL.out.1 (fun e => e)).trans co0; have co16 := (S6.out.F.cell (o := 1) HL.out.1 (fun e => e)).trans co1; clear Q6 F6)
        | (at_builtin; refine wpList_append_lies _ rfl _ _ 28 rfl w1.heap.size 33 iW (.int .u64 0) 1 8 Try.underlying28 hiW hz0 hz1 hz2 rfl (by decide) _ l _ rfl (hown.alloc _) ⟨wr.heap.size, 0, none⟩ 1 1 [.int .u64 y] rfl rfl (hcells_one _ _ _) (fun u hu => by simp at hu; subst hu; rfl) (by decide) (by unfold maxLen; omega) (by omega) (by have := hszr.out; simp; omega) (wr.heap.size + 1) (by simp) ?_; intro g5 cap5 w5 hown5 hgrow5 hat5 hlt5; have F5 : Fr (fun _ => False) w1 w5 := Fr.trans HFr.out (((Fr.refl (fun i => (Value.slice aoS l capS).ownBlock = some i) wr).alloc _).grow hgrow5 (fun k _ e => e)) (fun k hk e => by have := HS.out.ge e; omega); have Q5 : Own .u64 33 w5 w1.heap.size (.slice (some ⟨g5, 0, none⟩) (l + 1) cap5) (l + 1) r := Own.snocF hown5 Hr2.out; have HQ5 := hide Q5; have HF5 := hide F5; have HC5 := hide (own_cells Q5); clear F5 Q5 hown5 hgrow5 hat5 hlt5))
      have hX2 := hide (HS10.out.GX.ge bX (Nat.le_trans hB HF.out.size))
      have hY2 := hide (HS10.out.GY.ge bY (Nat.le_trans hB HF.out.size))
      have FW : Fr (fun k => B ≤ k) w w10 := HF.out.some.on (HS10.out.F.mono (fun k _ e => by rcases e with e | e; exact bX k e; exact bY k e))
      have hgO : gm ≠ ob := fun e => by have := HS10.out.gm1; have := HL.out.1; omega
      have FS : Fr (fun k => k = ob) w10 (w10.setCell ⟨ob, 2, none⟩ (.slice none 0 0)) := Fr.setCell (S := fun k => k = ob) (Fr.refl _ _) (fun _ => rfl) _ _
      have HS9 : Hid (St9 B w ob hb X2 rb Y2 sz (tm + 1) n2 f2 st2 l rr gm 0 (w10.setCell ⟨ob, 2, none⟩ (.slice none 0 0)) (.slice none 0 0) 0 (fun _ => 0)) := hide ⟨HPP.out, HS10.out.row.fr FS hgO, HS10.out.gmX, HS10.out.gmY, hgO, (fun e => by cases e), (fun g hg => by cases hg), Nat.le_refl _, (fun i hi => by omega), FW.on (FS.mono fun k _ e => by rw [e]; exact bo), Nat.le_trans hB (Nat.le_trans FW.size FS.size)⟩
      generalize w10.setCell ⟨ob, 2, none⟩ (.slice none 0 0) = W at *
      clear hgO FS FW HPP HS10 HN HF HS hown HFr HRr Hr1 Hr2 Hg HKC HKD co0 co1 co17 d2 fz2 cx4 cx6 cx4r cx6r HQ8
      go_loopw [24] (fun a24 wr => ∃ (j mm : Nat) (oo : Nat → Nat) (v : Value), j ≤ l + 1 ∧ a24 = .int .i64 (j : Int) ∧ St9 B w ob hb X2 rb Y2 sz (tm + 1) n2 f2 st2 l rr gm j wr v mm oo) (fun a24 _ => l + 1 - (intOf a24).toNat)
      case atStart => exact ⟨0, 0, _, _, Nat.zero_le _, rfl, HS9.out⟩
      case round =>
        clear HS9
        obtain ⟨j, mm, oo, v, hj, rfl, hS⟩ := hrel
        by_cases hlt : j < l + 1
        · have cg := hS.row.cell hlt
          have co1 := hS.E.cells.2.1
          have co2 := hS.E.cells.2.2
          have hrl := hrrl.out j hlt
          obtain ⟨p, hp⟩ : ∃ p, p = rr j := ⟨_, rfl⟩
          rw [← hp] at cg hrl
          have KI := fun q => ris_any (wr.drewN q) rb Y2 sz (tm + 1) n2 f2 st2 p (hS.E.R.drewN q) hrl
          obtain ⟨t, ht⟩ : ∃ t, isPtr st2 p = t := ⟨_, rfl⟩
          rw [ht] at KI
          have HS := hide hS
          have hrl' := hide hrl
          have hmm := hS.mj
          have hjI : (j : Int) < ((l + 1 : Nat) : Int) := by omega
          have HP := hide hp
          have HT := hide ht
          clear hS hp hrl ht
          go_wp2
          go_quiet ((go_at_call 42; exact Calls.quiet_of_same (KI _)))
          have HSW := hide (HS.out.fr (j2 := j) ((Fr.refl _ wr).drewN nq) (Nat.le_refl _))
          clear cg co1 co2 KI
          generalize wr.drewN nq = W at *
          cases t with
          | false =>
            go_wp2
            refine ⟨⟨j + 1, mm, oo, v, by omega, by go_num, HSW.out.fr (Fr.refl _ _) (by omega)⟩, ?_⟩
            simp [intOf]
            omega
          | true =>
            have cg := HSW.out.row.cell hlt
            rw [← HP.out] at cg
            obtain ⟨aoO, capO, rfl⟩ := HSW.out.E.O.shape
            have co2 := HSW.out.E.cells.2.2
            have hownO := HSW.out.E.O.row
            have co2A : (W.alloc (.cells #[.int .u64 (p : Int)] 33)).cell? ⟨ob, 2, none⟩ = some (.slice aoO mm capO) := (((Fr.refl (fun _ => False) W).alloc _).cell HSW.out.E.lt (fun e => e)).trans co2
            go_wp2
            go_region_law
              ((refine step_append_lies _ (by rfl) _ _ 28 (by rfl) 0 33 iW (.int .u64 0) 1 8 Try.underlying28 hiW hz0 hz1 hz2 rfl (by decide) (.slice aoO mm capO) mm _ (by rfl) (World.ownsRow.alloc (w := W.drew) hownO _) ⟨W.heap.size, 0, none⟩ 1 1 [.int .u64 (p : Int)] (by rfl) rfl (hcells_one W.drew _ _) (fun u hu => by simp at hu; subst hu; rfl) (by decide) (by unfold maxLen; omega) (by omega) (by simp) (W.heap.size + 1) (by simp) ?_; intro g5 cap5 w5 hown5 hgrow5 hat5 hlt5; have F5 := ((Fr.refl (fun k => (Value.slice aoO mm capO).ownBlock = some k) W).drew.alloc _).grow hgrow5 (fun k _ e => e); have S5 := lies_stays (n := mm + 1) (cap := cap5) (H := W.heap.size) hat5 (by omega); obtain ⟨q1, q2, M5⟩ := HSW.out.push bo F5 (Own.snoc hown5) S5 hrl'.out HT.out (by omega); have HM5 := hide M5; clear M5 F5 S5 hown5 hgrow5 hat5 hlt5))
            all_goals
              go_wp2
              refine ⟨⟨j + 1, mm + 1, upd oo mm p, _, by omega, by go_num, HM5.out⟩, ?_⟩
              simp [intOf]
              omega
        · go_wp2
          go_ret
          exact ⟨rfl, tm + 1, n2, f2, st2, mm, oo, ⟨X2, Y2, v, hS.E, hX2.out, hY2.out, bo, hS.vB⟩, hS.F, .inr (.inr ⟨rfl, r, HC.out.1, HC.out.2.1, HC.out.2.2, by have := hS.mj; omega, Hr3.out, hS.ptr⟩)⟩

set_option maxRecDepth 20000 in
set_option maxHeartbeats 60000000 in
theorem do5_true (B : Nat) (w : World) (ob hb rb sz : Nat) (tm : Int) (n : Nat) (f : Nat → Nat) (st : Nat → Bool) (m : Nat) (o : Nat → Nat) (k a b c : Int) (y : Nat) (vR : Value) (l : Nat) (h : OnAt B w ob hb rb sz tm n f st m o) (hB : B ≤ w.heap.size)
    (hk1 : -9223372036854775808 ≤ k) (hk2 : k ≤ 9223372036854775807) (ha1 : -9223372036854775808 ≤ a) (ha2 : a ≤ 9223372036854775807) (hc1 : -9223372036854775808 ≤ c) (hc2 : c ≤ 9223372036854775807) (hy : y < 18446744073709551616) (htm1 : 0 ≤ tm) (htm2 : tm ≤ 4611686018427387904) (g : Nat → Int) (hR : SlI .i64 w vR l g) (hg : ∀ i, i < l → -9223372036854775808 ≤ g i ∧ g i ≤ 9223372036854775807) (hl : l ≤ 17592186044415) (hk : (k % ((7 : Nat) : Int)).toNat = 5) :
    Calls Try.prog 13 #[.pointer (some ⟨ob, 0, none⟩), .agg #[.int .i64 k, .int .i64 a, .int .i64 b, .int .i64 c, .int .u64 (y : Int), .bool true, vR]] w fun e w' => DoEnd B w ob hb rb sz l tm n f st m o e w' := by
  obtain ⟨X, Y, vO, h, bX, bY, bo, bO⟩ := h
  obtain ⟨x, hx⟩ : ∃ x, pk m o a = x := ⟨_, rfl⟩
  have hxl : x < 18446744073709551616 := hx ▸ pk_lt h.ol a
  obtain ⟨x2, hx2⟩ : ∃ x, pk m o c = x := ⟨_, rfl⟩
  have hxl2 : x2 < 18446744073709551616 := hx2 ▸ pk_lt h.ol c
  have KL := place_at k 5 hk hk1 hk2
  have hnX : Hid (¬ X w.heap.size) := hide fun e => by have := h.H.lt e; omega
  have hnY : Hid (¬ Y w.heap.size) := hide fun e => by have := h.R.lt e; omega
  have HO := hide h
  have HX := hide hx
  have HX2 := hide hx2
  obtain ⟨iW, hiW, hz0, hz1, hz2⟩ := info_parts infoW
  obtain ⟨aoR, capR, rfl, hRc, hRc2, hRr⟩ := hR
  obtain ⟨r, hr1, hr2, hr3⟩ := roots_of h.ol g l y hy
  have hrrl0 : Hid (∀ i, i < l + 1 → mvV f st (r i) (rootsS f st r i MS.zero) < 18446744073709551616) := hide fun i hi => mvV_lt (MSok.roots h.H.good.1 h.H.good.2.1 r i) h.H.good.1 h.H.good.2.1 (Nat.le_trans h.H.good.2.2.1 h.H.good.2.2.2) (hr3 i hi)
  have HRr := hide hRr
  have Hr1 := hide hr1
  have Hr2 := hide hr2
  have Hr3 := hide hr3
  have Hg := hide hg
  clear h hx hxl hk hRr hr1 hr2 hr3 hg hx2 hxl2
  go_enter Try.func13, Try.ntmps13
  go_wp2_with (first
    | (go_at_call 16; refine (pick_at _ ob hb X rb Y vO sz tm n f st m o a x HX.out (HO.out.fr (ofDrew HQ.out) (fun _ _ e => e)) ha1 ha2).mono ?_; rintro e w1 ⟨rfl, hq'⟩; have hq := drew_more HQ.out hq'; clear cx0 cx1 hq' HQ; have cx0 := boxCell hq 0 _ rfl; have cx4 := boxCell hq 4 _ rfl; have cx6 := boxCell hq 6 _ rfl; have HF := hide (ofDrew hq); have hbl : Hid (w.heap.size < w1.heap.size) := hide (boxLt hq); have HN := hide (HO.out.fr HF.out (fun _ _ e => e)); have co0 := HN.out.cells.1; have co1 := HN.out.cells.2.1; have co2 := HN.out.cells.2.2; clear hq)
    | (go_at_call 16; refine (pick_at _ ob hb X rb Y vO sz tm n f st m o c x2 HX2.out (HO.out.fr (ofDrew ⟨0, rfl⟩) (fun _ _ e => e)) hc1 hc2).mono ?_; rintro e w0 ⟨rfl, hq⟩; have cx0 := boxCell hq 0 _ rfl; have cx1 := boxCell hq 1 _ rfl; have HQ := hide hq; clear hq)
    | (go_at_call 22; refine (KL _).mono ?_; rintro e w9 ⟨rfl, hw⟩; replace hw := hw.symm; subst hw))
  have HL : Hid (ob < w1.heap.size ∧ w.heap.size < w1.heap.size) := hide ⟨HN.out.lt, hbl.out⟩
  clear cx0 co2
  go_loopw [19, 20] (fun a19 a20 wr => ∃ j : Nat, j ≤ l ∧ a20 = .int .i64 (j : Int) ∧ Own .u64 33 wr w1.heap.size a19 j r ∧ Fr (fun _ => False) w1 wr) (fun _ a20 _ => l - (intOf a20).toNat)
  case atStart => exact ⟨0, Nat.zero_le _, rfl, .inl ⟨rfl, rfl⟩, Fr.refl _ _⟩
  case round =>
    obtain ⟨j, hj, rfl, hS, hFr⟩ := hrel
    have cx6r := (hFr.cell (o := 6) HL.out.2 (fun e => e)).trans cx6
    have cx4r := (hFr.cell (o := 4) HL.out.2 (fun e => e)).trans cx4
    have HFr := hide hFr
    have hszr : Hid (w1.heap.size ≤ wr.heap.size) := hide hFr.size
    by_cases hlt : j < l
    · obtain ⟨bR, offR, rfl, hRr⟩ : ∃ b off, aoR = some ⟨b, off, none⟩ ∧ ∀ i, i < l → w.cell? ⟨b, off + i, none⟩ = some (.int .i64 (g i)) := by
        rcases HRr.out with e | e
        · omega
        · exact e
      have cR := ((Fr.trans HF.out hFr (fun _ _ e => e)).cell (o := offR + j) (World.block_lt_of_cell? _ _ (hRr j hlt)) (fun e => e)).trans (hRr j hlt)
      have hpk := Hr1.out j hlt
      have hgj := Hg.out j hlt
      generalize g j = gj at *
      obtain ⟨p, hp⟩ : ∃ p, p = r j := ⟨_, rfl⟩
      rw [← hp] at hpk
      have HP := hide hp
      have HPK := hide hpk
      have HS := hide hS
      obtain ⟨aoS, capS, rfl⟩ := hS.shape
      have hgj1 := hgj.1
      have hgj2 := hgj.2
      clear hRr hp hpk hS hFr HRr hgj
      go_wp2_with (first
        | (go_at_call 16; refine (pick_at _ ob hb X rb Y vO sz tm n f st m o gj p HPK.out (HN.out.fr HFr.out (fun _ _ e => e)) hgj1 hgj2).mono ?_; rintro e w2 ⟨rfl, hq2⟩; have F2 := drewFr hq2; have HF2 := hide F2; have hown := (HS.out.fr F2 (fun _ _ e => e)).row; clear F2 hq2)
        | (at_builtin; refine wpList_append_lies _ rfl _ _ 28 rfl w1.heap.size 33 iW (.int .u64 0) 1 8 Try.underlying28 hiW hz0 hz1 hz2 rfl (by decide) _ j _ rfl (hown.alloc _) ⟨w2.heap.size, 0, none⟩ 1 1 [.int .u64 p] rfl rfl (hcells_one _ _ _) (fun u hu => by simp at hu; subst hu; rfl) (by decide) (by unfold maxLen; omega) (by omega) (by have := hszr.out; have := HF2.out.size; simp; omega) (w2.heap.size + 1) (by simp) ?_; intro g5 cap5 w5 hown5 hgrow5 hat5 hlt5))
      have F5 : Fr (fun i => (Value.slice aoS j capS).ownBlock = some i) w2 w5 := ((Fr.refl _ w2).alloc _).grow hgrow5 (fun k _ e => e)
      refine ⟨⟨j + 1, by omega, by go_num, Own.snocF hown5 HP.out.symm, Fr.trans (Fr.trans HFr.out HF2.out (fun _ _ e => e)) F5 (fun k hk e => by have := HS.out.ge e; omega)⟩, ?_⟩
      simp [intOf]
      omega
    · have hjl : l = j := by omega
      subst hjl
      have HS := hide hS
      obtain ⟨aoS, capS, rfl⟩ := hS.shape
      have hown := hS.row
      have HC : ∃ n2 f2 st2 rr, n2 = (collS n f st r (l + 1)).n ∧ f2 = (collS n f st r (l + 1)).f ∧ st2 = (collS n f st r (l + 1)).st ∧ rr = (fun k => mvV f st (r k) (rootsS f st r k MS.zero)) := ⟨_, _, _, _, rfl, rfl, rfl, rfl⟩
      obtain ⟨n2, f2, st2, rr, hn2, hf2, hst2, hrr⟩ := HC
      have KC := fun w6 ao6 cap6 => collect_any w6 hb X sz tm n f st ao6 (l + 1) cap6 r
      have KD := fun w7 ao5 cap5 => rcollect_any w7 rb Y sz tm n f st ao5 (l + 1) cap5 r
      rw [← hn2, ← hf2, ← hst2, ← hrr] at KC KD
      have hrrl : Hid (∀ i, i < l + 1 → rr i < 18446744073709551616) := by rw [hrr]; exact hrrl0
      have HKC := hide KC
      have HKD := hide KD
      have HC := hide (And.intro hn2 (And.intro hf2 hst2))
      clear hS hFr hlt hj KC KD hn2 hf2 hst2 hrr
      go_wp2_with (first
        | (go_at_call 21; refine (sameW_any ao6 (some ⟨g5, 0, none⟩) (l + 1) cap6 cap5 r _ S9.out.q6.rdl S9.out.q5.rdl (by omega)).mono ?_; rintro e w10 ⟨rfl, F10⟩; have S10 := S9.out.fr F10; obtain ⟨d2, fz2, HP2⟩ := S10.E.put (vO2 := .slice none 0 0) (m2 := 0) (o2 := fun _ => 0) (Fr.refl _ _) (.inl ⟨rfl, rfl⟩) (fun g hg => by cases hg) (fun i hi => by omega) (by omega); have HPP := hide HP2; have HS10 := hide S10; clear S10 HP2 F10 S9)
        | (go_at_call 21; refine (sameW_any (some ⟨gm, 0, none⟩) ao8 (l + 1) (l + 1) cap8 rr _ S8.out.row.rd HQ8.out.rdl (by omega)).mono ?_; rintro e w9 ⟨rfl, F9⟩; have S9 := hide (S8.out.fr F9); clear F9 S8)
        | (go_at_call 41; refine (HKD.out w7 (some ⟨g5, 0, none⟩) cap5 (S7.out.ref HN.out) htm1 htm2 (S7.out.hr HN.out).1 Hr3.out (by omega) (S7.out.hr HN.out).2.1 (S7.out.hr HN.out).2.2).mono ?_; rintro e w8 ⟨v8, rfl, Q8, Y2, nY8, R8, G8, F8⟩; obtain ⟨ao8, cap8, rfl⟩ := Q8.shape; have HQ8 := hide Q8; have S8 := hide (S7.out.eight HN.out R8 G8 F8); clear Q8 nY8 R8 G8 F8)
        | (go_at_call 18; refine (HKC.out w6 ao6 cap6 (HN.out.H.fr S6.out.F (fun _ _ e => e)) htm1 htm2 (S6.out.hr HN.out).1 Hr3.out (by omega) (S6.out.hr HN.out).2.1 (S6.out.hr HN.out).2.2).mono ?_; rintro e w7 ⟨gm, X2, rfl, hgm, R7, nX7, H7, G7, F7⟩; have S7 := hide (S6.out.seven HN.out hgm R7 nX7 H7 G7 F7); have co17 := (F7.cell (Nat.lt_of_lt_of_le HL.out.1 S6.out.F.size) HN.out.oX).trans co16; clear hgm R7 nX7 H7 G7 F7 co06 co16)
        | (go_at_call 20; refine (copyW_any g5 0 (l + 1) cap5 r w5 HC5.out (by omega)).mono ?_; rintro e w6 ⟨v6, rfl, Q6, F6⟩; obtain ⟨ao6, cap6, rfl⟩ := Q6.shape; have S6 := hide (St6.mk5 HF5.out HQ5.out Q6 F6); have co06 := (S6.out.F.cell (o := 0) HL.out.1 (fun e => e)).trans co0; have co16 := (S6.out.F.cell (o := 1) HL.out.1 (fun e => e)).trans co1; clear Q6 F6)
        | (at_builtin; refine wpList_append_lies _ rfl _ _ 28 rfl w1.heap.size 33 iW (.int .u64 0) 1 8 Try.underlying28 hiW hz0 hz1 hz2 rfl (by decide) _ l _ rfl (hown.alloc _) ⟨wr.heap.size, 0, none⟩ 1 1 [.int .u64 y] rfl rfl (hcells_one _ _ _) (fun u hu => by simp at hu; subst hu; rfl) (by decide) (by unfold maxLen; omega) (by omega) (by have := hszr.out; simp; omega) (wr.heap.size + 1) (by simp) ?_; intro g5 cap5 w5 hown5 hgrow5 hat5 hlt5; have F5 : Fr (fun _ => False) w1 w5 := Fr.trans HFr.out (((Fr.refl (fun i => (Value.slice aoS l capS).ownBlock = some i) wr).alloc _).grow hgrow5 (fun k _ e => e)) (fun k hk e => by have := HS.out.ge e; omega); have Q5 : Own .u64 33 w5 w1.heap.size (.slice (some ⟨g5, 0, none⟩) (l + 1) cap5) (l + 1) r := Own.snocF hown5 Hr2.out; have HQ5 := hide Q5; have HF5 := hide F5; have HC5 := hide (own_cells Q5); clear F5 Q5 hown5 hgrow5 hat5 hlt5))
      have hX2 := hide (HS10.out.GX.ge bX (Nat.le_trans hB HF.out.size))
      have hY2 := hide (HS10.out.GY.ge bY (Nat.le_trans hB HF.out.size))
      have FW : Fr (fun k => B ≤ k) w w10 := HF.out.some.on (HS10.out.F.mono (fun k _ e => by rcases e with e | e; exact bX k e; exact bY k e))
      have hgO : gm ≠ ob := fun e => by have := HS10.out.gm1; have := HL.out.1; omega
      have FS : Fr (fun k => k = ob) w10 (w10.setCell ⟨ob, 2, none⟩ (.slice none 0 0)) := Fr.setCell (S := fun k => k = ob) (Fr.refl _ _) (fun _ => rfl) _ _
      have HS9 : Hid (St9 B w ob hb X2 rb Y2 sz (tm + 1) n2 f2 st2 l rr gm 0 (w10.setCell ⟨ob, 2, none⟩ (.slice none 0 0)) (.slice none 0 0) 0 (fun _ => 0)) := hide ⟨HPP.out, HS10.out.row.fr FS hgO, HS10.out.gmX, HS10.out.gmY, hgO, (fun e => by cases e), (fun g hg => by cases hg), Nat.le_refl _, (fun i hi => by omega), FW.on (FS.mono fun k _ e => by rw [e]; exact bo), Nat.le_trans hB (Nat.le_trans FW.size FS.size)⟩
      generalize w10.setCell ⟨ob, 2, none⟩ (.slice none 0 0) = W at *
      clear hgO FS FW HPP HS10 HN HF HS hown HFr HRr Hr1 Hr2 Hg HKC HKD co0 co1 co17 d2 fz2 cx4 cx6 cx4r cx6r HQ8
      go_loopw [24] (fun a24 wr => ∃ (j mm : Nat) (oo : Nat → Nat) (v : Value), j ≤ l + 1 ∧ a24 = .int .i64 (j : Int) ∧ St9 B w ob hb X2 rb Y2 sz (tm + 1) n2 f2 st2 l rr gm j wr v mm oo) (fun a24 _ => l + 1 - (intOf a24).toNat)
      case atStart => exact ⟨0, 0, _, _, Nat.zero_le _, rfl, HS9.out⟩
      case round =>
        clear HS9
        obtain ⟨j, mm, oo, v, hj, rfl, hS⟩ := hrel
        by_cases hlt : j < l + 1
        · have cg := hS.row.cell hlt
          have co1 := hS.E.cells.2.1
          have co2 := hS.E.cells.2.2
          have hrl := hrrl.out j hlt
          obtain ⟨p, hp⟩ : ∃ p, p = rr j := ⟨_, rfl⟩
          rw [← hp] at cg hrl
          have KI := fun q => ris_any (wr.drewN q) rb Y2 sz (tm + 1) n2 f2 st2 p (hS.E.R.drewN q) hrl
          obtain ⟨t, ht⟩ : ∃ t, isPtr st2 p = t := ⟨_, rfl⟩
          rw [ht] at KI
          have HS := hide hS
          have hrl' := hide hrl
          have hmm := hS.mj
          have hjI : (j : Int) < ((l + 1 : Nat) : Int) := by omega
          have HP := hide hp
          have HT := hide ht
          clear hS hp hrl ht
          go_wp2
          go_quiet ((go_at_call 42; exact Calls.quiet_of_same (KI _)))
          have HSW := hide (HS.out.fr (j2 := j) ((Fr.refl _ wr).drewN nq) (Nat.le_refl _))
          clear cg co1 co2 KI
          generalize wr.drewN nq = W at *
          cases t with
          | false =>
            go_wp2
            refine ⟨⟨j + 1, mm, oo, v, by omega, by go_num, HSW.out.fr (Fr.refl _ _) (by omega)⟩, ?_⟩
            simp [intOf]
            omega
          | true =>
            have cg := HSW.out.row.cell hlt
            rw [← HP.out] at cg
            obtain ⟨aoO, capO, rfl⟩ := HSW.out.E.O.shape
            have co2 := HSW.out.E.cells.2.2
            have hownO := HSW.out.E.O.row
            have co2A : (W.alloc (.cells #[.int .u64 (p : Int)] 33)).cell? ⟨ob, 2, none⟩ = some (.slice aoO mm capO) := (((Fr.refl (fun _ => False) W).alloc _).cell HSW.out.E.lt (fun e => e)).trans co2
            go_wp2
            go_region_law
              ((refine step_append_lies _ (by rfl) _ _ 28 (by rfl) 0 33 iW (.int .u64 0) 1 8 Try.underlying28 hiW hz0 hz1 hz2 rfl (by decide) (.slice aoO mm capO) mm _ (by rfl) (World.ownsRow.alloc (w := W.drew) hownO _) ⟨W.heap.size, 0, none⟩ 1 1 [.int .u64 (p : Int)] (by rfl) rfl (hcells_one W.drew _ _) (fun u hu => by simp at hu; subst hu; rfl) (by decide) (by unfold maxLen; omega) (by omega) (by simp) (W.heap.size + 1) (by simp) ?_; intro g5 cap5 w5 hown5 hgrow5 hat5 hlt5; have F5 := ((Fr.refl (fun k => (Value.slice aoO mm capO).ownBlock = some k) W).drew.alloc _).grow hgrow5 (fun k _ e => e); have S5 := lies_stays (n := mm + 1) (cap := cap5) (H := W.heap.size) hat5 (by omega); obtain ⟨q1, q2, M5⟩ := HSW.out.push bo F5 (Own.snoc hown5) S5 hrl'.out HT.out (by omega); have HM5 := hide M5; clear M5 F5 S5 hown5 hgrow5 hat5 hlt5))
            all_goals
              go_wp2
              refine ⟨⟨j + 1, mm + 1, upd oo mm p, _, by omega, by go_num, HM5.out⟩, ?_⟩
              simp [intOf]
              omega
        · go_wp2
          go_ret
          exact ⟨rfl, tm + 1, n2, f2, st2, mm, oo, ⟨X2, Y2, v, hS.E, hX2.out, hY2.out, bo, hS.vB⟩, hS.F, .inr (.inr ⟨rfl, r, HC.out.1, HC.out.2.1, HC.out.2.2, by have := hS.mj; omega, Hr3.out, hS.ptr⟩)⟩

end Go.Proofs.Ytfeofdeffmnbkaa
