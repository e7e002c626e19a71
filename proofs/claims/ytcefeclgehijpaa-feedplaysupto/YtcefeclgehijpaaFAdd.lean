/-
  What is proved here: Add (package feed).
-/
import Derived.Test.YtcefeclgehijpaaFAdd0
namespace Go.Proofs.Ytcefeclgehijpaa
open Go Go.RowKit

set_option maxRecDepth 20000 in
set_option maxHeartbeats 4000000 in
theorem add_any (w : World) (t r clock : Nat) (T : List PL) (h : TabAt w t r T clock) (ao : Option Addr) (n cap : Nat) (g : Nat → Fd) (hn : n ≤ 9223372036854775807) (hr : FRow w ao n g)
    (hsep : ∀ b off, ao = some ⟨b, off, none⟩ → n ≠ 0 → b < w.heap.size ∧ ¬ tfoot t r T b) :
    Calls Try.prog 14 #[.pointer (some ⟨t, 0, none⟩), .slice ao n cap] w fun e w' => e = .returned (.tuple #[]) ∧ Adv w w' t r T (addN g (T.map PL.pm) n) := by
  have HT := hide h
  have HR := hide hr
  have HSEP := hide hsep
  clear h hr hsep
  go_enter Try.func14, Try.ntmps14
  go_wp2_with fail
  go_loopw [9] (fun u wr => ∃ i : Nat, u = .int .i64 (i : Int) ∧ i ≤ n ∧ Adv w wr t r T (addN g (T.map PL.pm) i)) (fun u _ => n - (intOf u).toNat)
  case atStart => exact ⟨0, rfl, Nat.zero_le _, Adv.refl HT.out⟩
  case round =>
    obtain ⟨i, rfl, hi, hA⟩ := hrel
    by_cases hil : i < n
    · have hiI : (i : Int) < (n : Int) := by omega
      obtain ⟨T1, c1, a1, F1, g1, e1⟩ := hA
      obtain ⟨b, off, rfl, hcel⟩ : ∃ b off, ao = some ⟨b, off, none⟩ ∧ ∀ i, i < n → w.cell? ⟨b, off + i * 4, none⟩ = some (.int .i64 (g i).p) ∧ w.cell? ⟨b, off + i * 4 + 1, none⟩ = some (.int .i64 (g i).c) ∧ w.cell? ⟨b, off + i * 4 + 2, none⟩ = some (.int .i64 (g i).m) ∧ w.cell? ⟨b, off + i * 4 + 3, none⟩ = some (.int .i64 (g i).k) := by
        rcases HR.out with e | e
        · omega
        · exact e
      obtain ⟨q0, q1, q2, q3⟩ := hcel i hil
      obtain ⟨hbl, hbf⟩ := HSEP.out b off rfl (by omega)
      rw [← F1.cell hbl hbf] at q0 q1 q2 q3
      have HE : Hid (addN g (T.map PL.pm) (i + 1) = addS (T1.map PL.pm) (g i)) := by unfold Hid; rw [e1]; rfl
      generalize g i = f at *
      have HA := hide a1
      have HF := hide F1
      have HG := hide g1
      have K1 := hide (fun W => unseen_eq W f.p f.c)
      obtain ⟨bn, hbn⟩ : ∃ bn, bn = !decide (f.m = 0 ∧ f.k = -1) := ⟨_, rfl⟩
      have hne : ∀ W, (binOp .neq 37 (.agg #[.int .i64 f.p, .int .i64 f.c, .int .i64 f.m, .int .i64 f.k]) (.agg #[.int .i64 f.p, .int .i64 f.c, .int .i64 0, .int .i64 (-1)])).run Try.prog W = .ok (.bool bn) W := by
        intro W
        rw [neq_feed, hbn]
        simp
      clear e1 hcel a1 F1 g1
      go_upto_region 3 with fail
      go_cut [9, 19] from 9 to 35 (fun u s wc => u = .int .i64 (i : Int) ∧ s = .bool bn ∧ Hid (FB wc wr.heap.size f) ∧ Hid (Fr (fun _ => False) wr wc))
      case first =>
        go_region_with (go_at_call 24; refine (K1.out _).mono ?_; rintro e1 w2 ⟨rfl, rfl⟩; unfold fdV)
        all_goals (go_wp2_with fail; go_meet)
        all_goals refine ⟨rfl, by rw [hbn]; congr 1; simp, hide ?_, hide ?_⟩
        all_goals first | exact (heap_alloc_old (wr.alloc _) _ (by simp)).trans (heap_alloc_new wr _) | exact (((Fr.refl _ _).alloc _).alloc _).drew
      case rest =>
        obtain ⟨rfl, rfl, hB, hF⟩ := hcut
        cases bn
        · have hm : f.m = 0 ∧ f.k = -1 := by simpa using hbn
          have HADD : Hid (addS (T1.map PL.pm) f = T1.map PL.pm) := by unfold Hid addS; rw [if_pos hm]
          clear hne hbn
          go_wp2_with fail
          refine ⟨⟨i + 1, by go_num, hil, ?_⟩, by simp [intOf]; omega⟩
          rw [HE.out, HADD.out]
          exact Adv.trans HA.out HF.out HG.out (Adv.same HA.out hF.out)
        · have hm : ¬ (f.m = 0 ∧ f.k = -1) := fun hh => by simp [hh] at hbn
          have HADD : Hid (addS (T1.map PL.pm) f = insS f (T1.map PL.pm)) := by unfold Hid addS; rw [if_neg hm]
          clear hne hbn hm
          have AT := HA.out.same hF.out
          have hsr : r < wr.heap.size := lt_of_block HA.out.mp
          have k0 := hB.out.k0
          have k1 := hB.out.k1
          cases hfn : fnd f.p f.c (T1.map PL.e) 0 with
          | none =>
            have K3 := hide (place_new wc t r c1 T1 AT f.p f.c hfn)
            have HINS := hide (ins_none (T := T1) (f := f) hfn)
            have HAT := hide AT
            have K5 := hide (fun W => join_any W f.p f.c 0 (-1) f.p f.c f.m f.k)
            clear AT hfn
            go_upto_region 5 with (first
              | (go_at_call 26; refine K3.out.mono ?_; rintro e3 w3 ⟨a, rfl, F3, hal, A3⟩; have HF3 := hide F3; have HA3 := hide A3; clear F3 A3))
            clear k0 k1
            have hp3 := HA3.out.pl ⟨⟨f.p, f.c, a, c1⟩, 0, -1, 0⟩ (by simp)
            have HP3 : Hid (PB w3 a (.int .i64 f.p) (.int .i64 f.c) (.int .i64 0) (.int .i64 (-1)) (.int .i64 0)) := hide hp3
            have hb3 : FB w3 wr.heap.size f := (HF3.out.block _ (lt_of_block hB.out) (by omega)).trans hB.out
            have k0 := hb3.k0
            have k1 := hb3.k1
            have k2 := hb3.k2
            have k3 := hb3.k3
            have p0 := HP3.out.k0
            have p1 := HP3.out.k1
            have p2 := HP3.out.k2
            have p3 := HP3.out.k3
            clear hp3 hb3
            go_region_with (go_at_call 22; refine (K5.out _).mono ?_; rintro e5 w5 ⟨rfl, F5⟩; unfold fdV; have b5 : PB w5 a (.int .i64 f.p) (.int .i64 f.c) (.int .i64 0) (.int .i64 (-1)) (.int .i64 0) := (F5.block _ (lt_of_block HP3.out) (fun e => e)).trans HP3.out; have d1 := b5.s0 (.int .i64 f.p); have d2 := d1.s1 (.int .i64 f.c); have d3 := d2.s2 (.int .i64 (orI 0 f.m)); have d4 := d3.s3 (.int .i64 (jc (-1) f.k)); have z0 := b5.fz 0; have z1 := d1.fz 1; have z2 := d2.fz 2; have z3 := d3.fz 3; have y0 := b5.k0; have y1 := d1.k1; have y2 := d2.k2; have y3 := d3.k3; have HF5 := hide F5; have HD4 := hide d4; clear F5 b5 d1 d2 d3 d4)
            all_goals go_wp2_with fail
            all_goals refine ⟨⟨i + 1, by go_num, hil, ?_⟩, by simp [intOf]; omega⟩
            all_goals rw [HE.out, HADD.out, HINS.out]
            all_goals exact Adv.trans HA.out HF.out HG.out (adv_new HA.out hF.out HF3.out hal HA3.out ((Fr.refl _ _).drew.trans HF5.out (fun _ _ e => e)) HD4.out (fr_set4 _ _ _ _ _ _))
          | some ie =>
            obtain ⟨ix, e0⟩ := ie
            obtain ⟨_, hex, hpe, hce⟩ := fnd_some hfn
            obtain ⟨x, hx, rfl⟩ : ∃ x, T1[ix]? = some x ∧ x.e = e0 := by
              rw [Nat.sub_zero, List.getElem?_map, Option.map_eq_some_iff] at hex
              exact hex
            have K3 := hide (place_old wc t r c1 T1 AT f.p f.c ix x.e hfn)
            have HINS := hide (ins_some (T := T1) (f := f) (x := x) hfn (by simpa using hx))
            have HX := hide hx
            have HAT := hide AT
            have hp0 := AT.pl x (List.mem_of_getElem? hx)
            have HP0 : Hid (PB wc x.e.a (.int .i64 x.e.p) (.int .i64 x.e.c) (.int .i64 x.m) (.int .i64 x.k) (.int .i64 x.n)) := hide hp0
            have K5 := hide (fun W => join_any W x.e.p x.e.c x.m x.k f.p f.c f.m f.k)
            clear AT hfn hx hp0 hex hpe hce
            go_upto_region 5 with (first
              | (go_at_call 26; refine K3.out.mono ?_; rintro e3 w3 ⟨rfl, F3⟩; have HF3 := hide F3; clear F3))
            clear k0 k1
            have HP3 : Hid (PB w3 x.e.a (.int .i64 x.e.p) (.int .i64 x.e.c) (.int .i64 x.m) (.int .i64 x.k) (.int .i64 x.n)) := (HF3.out.block _ (lt_of_block HP0.out) (fun e => e)).trans HP0.out
            have hb3 : FB w3 wr.heap.size f := (HF3.out.block _ (lt_of_block hB.out) (fun e => e)).trans hB.out
            have k0 := hb3.k0
            have k1 := hb3.k1
            have k2 := hb3.k2
            have k3 := hb3.k3
            have p0 := HP3.out.k0
            have p1 := HP3.out.k1
            have p2 := HP3.out.k2
            have p3 := HP3.out.k3
            clear hb3
            go_region_with (go_at_call 22; refine (K5.out _).mono ?_; rintro e5 w5 ⟨rfl, F5⟩; unfold fdV; have b5 : PB w5 x.e.a (.int .i64 x.e.p) (.int .i64 x.e.c) (.int .i64 x.m) (.int .i64 x.k) (.int .i64 x.n) := (F5.block _ (lt_of_block HP3.out) (fun e => e)).trans HP3.out; have d1 := b5.s0 (.int .i64 x.e.p); have d2 := d1.s1 (.int .i64 x.e.c); have d3 := d2.s2 (.int .i64 (orI x.m f.m)); have d4 := d3.s3 (.int .i64 (jc x.k f.k)); have z0 := b5.fz 0; have z1 := d1.fz 1; have z2 := d2.fz 2; have z3 := d3.fz 3; have y0 := b5.k0; have y1 := d1.k1; have y2 := d2.k2; have y3 := d3.k3; have HF5 := hide F5; have HD4 := hide d4; clear F5 b5 d1 d2 d3 d4)
            all_goals go_wp2_with fail
            all_goals refine ⟨⟨i + 1, by go_num, hil, ?_⟩, by simp [intOf]; omega⟩
            all_goals rw [HE.out, HADD.out, HINS.out]
            all_goals exact Adv.trans HA.out HF.out HG.out (adv_old HA.out (hF.out.trans HF3.out (fun _ _ e => e)) HX.out ((Fr.refl _ _).drew.trans HF5.out (fun _ _ e => e)) HD4.out (fr_set4 _ _ _ _ _ _))
    · have e : i = n := by omega
      subst e
      have hil' : ¬ ((i : Int) < (i : Int)) := by omega
      have HAA := hide hA
      clear hA hil
      go_wp2_with fail
      go_end0
      exact ⟨rfl, HAA.out⟩

end Go.Proofs.Ytcefeclgehijpaa
