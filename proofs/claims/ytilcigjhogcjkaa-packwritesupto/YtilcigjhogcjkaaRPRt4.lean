/-
  What is proved here: tandemref10's right of lists and vectors, given their parts.
-/
import Derived.Test.YtilcigjhogcjkaaRPRt3
namespace Go.Proofs.Ytilcigjhogcjkaa
open Go Go.RowKit


set_option maxRecDepth 100000 in
set_option maxHeartbeats 4000000 in
theorem right_6i {h : Nat} (hC : RTOK h) (w0 w : World) (cb c k dp : Nat) (t : ByteArray) (I : List (Tr h)) (a1 a2 a3 : Option Addr) (p1 p2 p3 : Nat) (hL : LAt w cb (c + 1)) (hc : c < 20000) (hk : k ≤ 100) (hdp : dp + k = 100) (hk0 : 1 ≤ k) (hU : Up w0 w) (hcb : w0.heap.size ≤ cb) (hI : RowD w0 (DatC w0 h) (.slice a2 I.length p2) I) (ht : t.toList = []) (hd : ∀ d, d ∈ I → (datB h d).length ≤ 900000000) :
    Calls Try.prog 45 #[.pointer (some ⟨cb, 0, none⟩), .agg #[.int .i64 6, .int .i64 0, .bool false, .slice a1 0 p1, .string t, .slice a2 I.length p2, .slice a3 0 p3], .int .i64 (k : Int)] w fun e w' => LF w cb (c + 1) (1 + (ptsA h I)) (I.all (goodD h dp) && decide (ptsA h I ≤ c)) e w' := by
  have hA := hL.alloc (.cells #[.int .i64 6, .int .i64 0, .bool false, .slice a1 0 p1, .string t, .slice a2 I.length p2, .slice a3 0 p3] 64)
  have x1 := hA.cell
  have x2 := hA.free
  have x3 := (hA.set c).cell
  have hb := rt_box c 6 0 false t (.slice a1 0 p1) (.slice a2 I.length p2) (.slice a3 0 p3) hL
  have y0 := hb.k0
  have y1 := hb.k1
  have y2 := hb.k2
  have y3 := hb.k3
  have y4 := hb.k4
  have y5 := hb.k5
  have y6 := hb.k6
  unfold rtW at y0 y1 y2 y3 y4 y5 y6
  have HH := hide (fun (W : World) => rhalf_any 0 W)
  rw [show half 0 = true from rfl] at HH
  have e1 : ((c + 1 : Nat) : Int) - 1 = (c : Int) := by omega
  have e2 : ¬ ((c : Int) < 0) := by omega
  have e3 : ¬ ((100 : Int) < (k : Int)) := by omega
  have hIl : I.length ≤ p2 ∧ p2 ≤ 9223372036854775807 := by
    obtain ⟨ao', cap', e, h1, h2, -⟩ := hI
    cases e
    exact ⟨h1, h2⟩
  have HLT := hide hL.lt
  have hF0 := rt_fr w cb c 6 0 false t (.slice a1 0 p1) (.slice a2 I.length p2) (.slice a3 0 p3)
  have hL0 : LAt (rtW w cb c 6 0 false t (.slice a1 0 p1) (.slice a2 I.length p2) (.slice a3 0 p3)) cb c := hA.set c
  obtain ⟨r, hrr⟩ : ∃ r, r = (I.all (goodD h dp) && decide (ptsA h I ≤ c)) := ⟨_, rfl⟩
  obtain ⟨s, hs⟩ : ∃ s, s = ptsA h I := ⟨_, rfl⟩
  rw [← hrr, ← hs]
  rw [← hs] at hrr
  have HBD : Hid (I.all (goodD h dp) = false → r = false) := fun e => by rw [hrr, e]; rfl
  have HMN : Hid (c < ptsA h I → r = false) := fun e => by rw [hrr, decide_eq_false (by omega)]; simp
  unfold rtW at hF0 hL0
  have HF0 := hide hF0
  have HL0 := hide hL0
  have HB0 := hide hb
  unfold rtW at HB0
  have HRR := hide hrr
  have HS := hide hs
  have HI := hide hI
  have HU := hide hU
  have HC := hide hC
  have HD := hide hd
  clear hL hA hb hrr hs hI hU hC hd hF0 hL0
  go_enter Try.func45, Try.ntmps45
  go_wp2_with (go_at_call 44; refine (HH.out _).mono ?_; rintro e7 w7 ⟨rfl, hw⟩; replace hw := hw.symm; subst hw)
  go_loopw [11] (fun u wr => ∃ i m : Nat, u = .int .i64 (i : Int) ∧ i ≤ I.length ∧ c = m + kK I i ∧ LAt wr cb m ∧ DBx wr w.heap.size (.int .i64 6) (.int .i64 0) (.bool false) (.slice a1 0 p1) (.string t) (.slice a2 I.length p2) (.slice a3 0 p3) ∧ (∀ j (hj : j < I.length), j < i → goodD h dp I[j] = true) ∧ Fr (fun j => j = cb) w wr) (fun u _ => I.length - (intOf u).toNat)
  case atStart => exact ⟨0, c, rfl, Nat.zero_le _, by simp [kK], HL0.out, HB0.out, (fun j _ hj => by omega), HF0.out⟩
  case round =>
    clear HB0 HF0 HL0 x1 x2 x3 y0 y1 y2 y3 y4 y5 y6
    obtain ⟨i, m, rfl, hi, hm, hL, hP, hgk, hF⟩ := hrel
    have hup := up_cb HU.out hcb hF
    have yy0 := hP.k0
    have yy5 := hP.k5
    have yy6 := hP.k6
    by_cases hil : i < I.length
    · obtain ⟨g2, off2, rfl, kk, km, kb, um, kt, ui, ur, hdat, ⟨q1, q2, q3, rfl⟩, ⟨z1, z2, z3, rfl⟩, ⟨t1, t2, t3, rfl⟩, f0, f1, f2, f3, f4, f5, f6⟩ := row_cells HI.out hup hil
      have hks := kK_succ I i hil
      have hkl := kK_le I (i + 1)
      obtain ⟨b4, hb4⟩ : ∃ x, x = (goodD h dp I[i] && decide (ptsD h I[i] ≤ m)) := ⟨_, rfl⟩
      have HBD4 : Hid (b4 = false → r = false) := fun e => by
        cases hx : goodD h dp I[i] with
        | false => exact HBD.out (all_bad hil hx)
        | true =>
          rw [hb4, hx, Bool.true_and, decide_eq_false_iff_not] at e
          exact HMN.out (by omega)
      have HGD4 : Hid (b4 = true → c = (m - ptsD h I[i]) + kK I (i + 1) ∧ ∀ j (hj : j < I.length), j < i + 1 → goodD h dp I[j] = true) := fun e => by
        rw [hb4, Bool.and_eq_true, decide_eq_true_eq] at e
        refine ⟨by omega, fun j hj hjk => ?_⟩
        by_cases ej : j = i
        · subst ej; exact e.1
        · exact hgk j hj (by omega)
      have HQ := hide (show Calls Try.prog 45 #[.pointer (some ⟨cb, 0, none⟩), .agg #[.int .i64 kk, .int .i64 km, .bool kb, .slice q1 q2 q3, .string kt, .slice z1 z2 z3, .slice t1 t2 t3], .int .i64 ((k : Int) + 1)] wr fun e w' => LF wr cb m (ptsD h I[i]) b4 e w' by
        have := HC.out w0 wr cb m I[i] _ _ _ _ _ _ _ (k + 1) hdat hup hcb hL (by omega) (by omega) (by omega) (HD.out _ (List.getElem_mem hil))
        rw [show 101 - (k + 1) = dp by omega, ← hb4] at this
        exact this)
      have HPP := hide hP
      have HFF := hide hF
      have hkI : (i : Int) < (I.length : Int) := by omega
      clear hks hkl hb4 hm hL hP hgk hF hup hdat
      cases b4
      · have HF := hide (HBD4.out rfl)
        go_wp2_with (go_at_call 45; refine HQ.out.mono ?_; rintro e8 w8 ⟨rfl, hc8, F8⟩; have HF8 := hide (HFF.out.trans F8 (fun _ _ e => e)); clear F8 hc8)
        go_ret
        exact ⟨by rw [HF.out]; rfl, (fun e => by rw [HF.out] at e; cases e), HF8.out⟩
      · have HG := hide (HGD4.out rfl)
        go_wp2_with (go_at_call 45; refine HQ.out.mono ?_; rintro e8 w8 ⟨rfl, hc8, F8⟩; have HF8 := hide (HFF.out.trans F8 (fun _ _ e => e)); have HC8 := hide hc8; have HP8 := hide (HPP.out.frc (by have := HLT.out; omega) F8); clear F8 hc8)
        exact ⟨⟨i + 1, _, by go_num, hil, HG.out.1, HC8.out trivial, HP8.out, HG.out.2, HF8.out⟩, by simp [intOf]; omega⟩
    · have e : i = I.length := by omega
      subst e
      rw [kK_all] at hm
      have HKA : Hid (I.all (goodD h dp) = true) := by
        unfold Hid
        rw [List.all_eq_true]
        intro x hx
        obtain ⟨j, hj, rfl⟩ := List.getElem_of_mem hx
        exact hgk j hj hj
      have hil' : ¬ ((I.length : Int) < (I.length : Int)) := by omega
      have HT : Hid (r = true) := by
        unfold Hid
        rw [HRR.out, HKA.out, HS.out, decide_eq_true (by omega)]
        rfl
      have HLL : Hid (LAt wr cb (c + 1 - (1 + s))) := by
        unfold Hid
        rw [HS.out, show c + 1 - (1 + ptsA h I) = m by omega]
        exact hL
      have HFF := hide hF
      clear hm hL hP hgk hF hup hil
      go_wp2
      go_ret
      exact ⟨by rw [HT.out]; rfl, fun _ => HLL.out, HFF.out⟩

set_option maxRecDepth 100000 in
set_option maxHeartbeats 4000000 in
theorem right_7i {h : Nat} (hC : RTOK h) (w0 w : World) (cb c k dp : Nat) (t : ByteArray) (I : List (Tr h)) (a1 a2 a3 : Option Addr) (p1 p2 p3 : Nat) (hL : LAt w cb (c + 1)) (hc : c < 20000) (hk : k ≤ 100) (hdp : dp + k = 100) (hk0 : 1 ≤ k) (hU : Up w0 w) (hcb : w0.heap.size ≤ cb) (hI : RowD w0 (DatC w0 h) (.slice a2 I.length p2) I) (ht : t.toList = []) (hd : ∀ d, d ∈ I → (datB h d).length ≤ 900000000) :
    Calls Try.prog 45 #[.pointer (some ⟨cb, 0, none⟩), .agg #[.int .i64 7, .int .i64 0, .bool false, .slice a1 0 p1, .string t, .slice a2 I.length p2, .slice a3 0 p3], .int .i64 (k : Int)] w fun e w' => LF w cb (c + 1) (1 + (ptsA h I)) (I.all (goodD h dp) && decide (ptsA h I ≤ c)) e w' := by
  have hA := hL.alloc (.cells #[.int .i64 7, .int .i64 0, .bool false, .slice a1 0 p1, .string t, .slice a2 I.length p2, .slice a3 0 p3] 64)
  have x1 := hA.cell
  have x2 := hA.free
  have x3 := (hA.set c).cell
  have hb := rt_box c 7 0 false t (.slice a1 0 p1) (.slice a2 I.length p2) (.slice a3 0 p3) hL
  have y0 := hb.k0
  have y1 := hb.k1
  have y2 := hb.k2
  have y3 := hb.k3
  have y4 := hb.k4
  have y5 := hb.k5
  have y6 := hb.k6
  unfold rtW at y0 y1 y2 y3 y4 y5 y6
  have HH := hide (fun (W : World) => rhalf_any 0 W)
  rw [show half 0 = true from rfl] at HH
  have e1 : ((c + 1 : Nat) : Int) - 1 = (c : Int) := by omega
  have e2 : ¬ ((c : Int) < 0) := by omega
  have e3 : ¬ ((100 : Int) < (k : Int)) := by omega
  have hIl : I.length ≤ p2 ∧ p2 ≤ 9223372036854775807 := by
    obtain ⟨ao', cap', e, h1, h2, -⟩ := hI
    cases e
    exact ⟨h1, h2⟩
  have HLT := hide hL.lt
  have hF0 := rt_fr w cb c 7 0 false t (.slice a1 0 p1) (.slice a2 I.length p2) (.slice a3 0 p3)
  have hL0 : LAt (rtW w cb c 7 0 false t (.slice a1 0 p1) (.slice a2 I.length p2) (.slice a3 0 p3)) cb c := hA.set c
  obtain ⟨r, hrr⟩ : ∃ r, r = (I.all (goodD h dp) && decide (ptsA h I ≤ c)) := ⟨_, rfl⟩
  obtain ⟨s, hs⟩ : ∃ s, s = ptsA h I := ⟨_, rfl⟩
  rw [← hrr, ← hs]
  rw [← hs] at hrr
  have HBD : Hid (I.all (goodD h dp) = false → r = false) := fun e => by rw [hrr, e]; rfl
  have HMN : Hid (c < ptsA h I → r = false) := fun e => by rw [hrr, decide_eq_false (by omega)]; simp
  unfold rtW at hF0 hL0
  have HF0 := hide hF0
  have HL0 := hide hL0
  have HB0 := hide hb
  unfold rtW at HB0
  have HRR := hide hrr
  have HS := hide hs
  have HI := hide hI
  have HU := hide hU
  have HC := hide hC
  have HD := hide hd
  clear hL hA hb hrr hs hI hU hC hd hF0 hL0
  go_enter Try.func45, Try.ntmps45
  go_wp2_with (go_at_call 44; refine (HH.out _).mono ?_; rintro e7 w7 ⟨rfl, hw⟩; replace hw := hw.symm; subst hw)
  go_loopw [11] (fun u wr => ∃ i m : Nat, u = .int .i64 (i : Int) ∧ i ≤ I.length ∧ c = m + kK I i ∧ LAt wr cb m ∧ DBx wr w.heap.size (.int .i64 7) (.int .i64 0) (.bool false) (.slice a1 0 p1) (.string t) (.slice a2 I.length p2) (.slice a3 0 p3) ∧ (∀ j (hj : j < I.length), j < i → goodD h dp I[j] = true) ∧ Fr (fun j => j = cb) w wr) (fun u _ => I.length - (intOf u).toNat)
  case atStart => exact ⟨0, c, rfl, Nat.zero_le _, by simp [kK], HL0.out, HB0.out, (fun j _ hj => by omega), HF0.out⟩
  case round =>
    clear HB0 HF0 HL0 x1 x2 x3 y0 y1 y2 y3 y4 y5 y6
    obtain ⟨i, m, rfl, hi, hm, hL, hP, hgk, hF⟩ := hrel
    have hup := up_cb HU.out hcb hF
    have yy0 := hP.k0
    have yy5 := hP.k5
    have yy6 := hP.k6
    by_cases hil : i < I.length
    · obtain ⟨g2, off2, rfl, kk, km, kb, um, kt, ui, ur, hdat, ⟨q1, q2, q3, rfl⟩, ⟨z1, z2, z3, rfl⟩, ⟨t1, t2, t3, rfl⟩, f0, f1, f2, f3, f4, f5, f6⟩ := row_cells HI.out hup hil
      have hks := kK_succ I i hil
      have hkl := kK_le I (i + 1)
      obtain ⟨b4, hb4⟩ : ∃ x, x = (goodD h dp I[i] && decide (ptsD h I[i] ≤ m)) := ⟨_, rfl⟩
      have HBD4 : Hid (b4 = false → r = false) := fun e => by
        cases hx : goodD h dp I[i] with
        | false => exact HBD.out (all_bad hil hx)
        | true =>
          rw [hb4, hx, Bool.true_and, decide_eq_false_iff_not] at e
          exact HMN.out (by omega)
      have HGD4 : Hid (b4 = true → c = (m - ptsD h I[i]) + kK I (i + 1) ∧ ∀ j (hj : j < I.length), j < i + 1 → goodD h dp I[j] = true) := fun e => by
        rw [hb4, Bool.and_eq_true, decide_eq_true_eq] at e
        refine ⟨by omega, fun j hj hjk => ?_⟩
        by_cases ej : j = i
        · subst ej; exact e.1
        · exact hgk j hj (by omega)
      have HQ := hide (show Calls Try.prog 45 #[.pointer (some ⟨cb, 0, none⟩), .agg #[.int .i64 kk, .int .i64 km, .bool kb, .slice q1 q2 q3, .string kt, .slice z1 z2 z3, .slice t1 t2 t3], .int .i64 ((k : Int) + 1)] wr fun e w' => LF wr cb m (ptsD h I[i]) b4 e w' by
        have := HC.out w0 wr cb m I[i] _ _ _ _ _ _ _ (k + 1) hdat hup hcb hL (by omega) (by omega) (by omega) (HD.out _ (List.getElem_mem hil))
        rw [show 101 - (k + 1) = dp by omega, ← hb4] at this
        exact this)
      have HPP := hide hP
      have HFF := hide hF
      have hkI : (i : Int) < (I.length : Int) := by omega
      clear hks hkl hb4 hm hL hP hgk hF hup hdat
      cases b4
      · have HF := hide (HBD4.out rfl)
        go_wp2_with (go_at_call 45; refine HQ.out.mono ?_; rintro e8 w8 ⟨rfl, hc8, F8⟩; have HF8 := hide (HFF.out.trans F8 (fun _ _ e => e)); clear F8 hc8)
        go_ret
        exact ⟨by rw [HF.out]; rfl, (fun e => by rw [HF.out] at e; cases e), HF8.out⟩
      · have HG := hide (HGD4.out rfl)
        go_wp2_with (go_at_call 45; refine HQ.out.mono ?_; rintro e8 w8 ⟨rfl, hc8, F8⟩; have HF8 := hide (HFF.out.trans F8 (fun _ _ e => e)); have HC8 := hide hc8; have HP8 := hide (HPP.out.frc (by have := HLT.out; omega) F8); clear F8 hc8)
        exact ⟨⟨i + 1, _, by go_num, hil, HG.out.1, HC8.out trivial, HP8.out, HG.out.2, HF8.out⟩, by simp [intOf]; omega⟩
    · have e : i = I.length := by omega
      subst e
      rw [kK_all] at hm
      have HKA : Hid (I.all (goodD h dp) = true) := by
        unfold Hid
        rw [List.all_eq_true]
        intro x hx
        obtain ⟨j, hj, rfl⟩ := List.getElem_of_mem hx
        exact hgk j hj hj
      have hil' : ¬ ((I.length : Int) < (I.length : Int)) := by omega
      have HT : Hid (r = true) := by
        unfold Hid
        rw [HRR.out, HKA.out, HS.out, decide_eq_true (by omega)]
        rfl
      have HLL : Hid (LAt wr cb (c + 1 - (1 + s))) := by
        unfold Hid
        rw [HS.out, show c + 1 - (1 + ptsA h I) = m by omega]
        exact hL
      have HFF := hide hF
      clear hm hL hP hgk hF hup hil
      go_wp2
      go_ret
      exact ⟨by rw [HT.out]; rfl, fun _ => HLL.out, HFF.out⟩

set_option maxRecDepth 100000 in
set_option maxHeartbeats 4000000 in
theorem right_6x {h : Nat} (hC : RTOK h) (w0 w : World) (cb c k dp : Nat) (t : ByteArray) (I : List (Tr h)) (x : Tr h) (g3 off3 : Nat) (kk3 km3 : Int) (kb3 : Bool) (kt3 : ByteArray) (x31 z31 t31 : Option Addr) (x32 x33 z32 z33 t32 t33 : Nat) (a1 a2 : Option Addr) (p1 p2 p3 : Nat) (hL : LAt w cb (c + 1)) (hc : c < 20000) (hk : k ≤ 100) (hdp : dp + k = 100) (hk0 : 1 ≤ k) (hU : Up w0 w) (hcb : w0.heap.size ≤ cb) (hI : RowD w0 (DatC w0 h) (.slice a2 I.length p2) I) (ht : t.toList = []) (hd : ∀ d, d ∈ I → (datB h d).length ≤ 900000000) (h2 : 0 < I.length) (hk6 : kk3 ≠ 6) (hdx : (datB h x).length ≤ 900000000) (hdat3 : DatC w0 h x [.int .i64 kk3, .int .i64 km3, .bool kb3, .slice x31 x32 x33, .string kt3, .slice z31 z32 z33, .slice t31 t32 t33]) (hcell3 : ∀ W : World, Up w0 W → W.cell? ⟨g3, off3, none⟩ = some (.int .i64 kk3) ∧ W.cell? ⟨g3, off3 + 1, none⟩ = some (.int .i64 km3) ∧ W.cell? ⟨g3, off3 + 2, none⟩ = some (.bool kb3) ∧ W.cell? ⟨g3, off3 + 3, none⟩ = some (.slice x31 x32 x33) ∧ W.cell? ⟨g3, off3 + 4, none⟩ = some (.string kt3) ∧ W.cell? ⟨g3, off3 + 5, none⟩ = some (.slice z31 z32 z33) ∧ W.cell? ⟨g3, off3 + 6, none⟩ = some (.slice t31 t32 t33)) :
    Calls Try.prog 45 #[.pointer (some ⟨cb, 0, none⟩), .agg #[.int .i64 6, .int .i64 0, .bool false, .slice a1 0 p1, .string t, .slice a2 I.length p2, .slice (some ⟨g3, off3, none⟩) 1 p3], .int .i64 (k : Int)] w fun e w' => LF w cb (c + 1) (1 + (ptsA h I + ptsD h x)) (I.all (goodD h dp) && (goodD h dp x && decide (ptsA h I + ptsD h x ≤ c))) e w' := by
  have hA := hL.alloc (.cells #[.int .i64 6, .int .i64 0, .bool false, .slice a1 0 p1, .string t, .slice a2 I.length p2, .slice (some ⟨g3, off3, none⟩) 1 p3] 64)
  have x1 := hA.cell
  have x2 := hA.free
  have x3 := (hA.set c).cell
  have hb := rt_box c 6 0 false t (.slice a1 0 p1) (.slice a2 I.length p2) (.slice (some ⟨g3, off3, none⟩) 1 p3) hL
  have y0 := hb.k0
  have y1 := hb.k1
  have y2 := hb.k2
  have y3 := hb.k3
  have y4 := hb.k4
  have y5 := hb.k5
  have y6 := hb.k6
  unfold rtW at y0 y1 y2 y3 y4 y5 y6
  have HH := hide (fun (W : World) => rhalf_any 0 W)
  rw [show half 0 = true from rfl] at HH
  have e1 : ((c + 1 : Nat) : Int) - 1 = (c : Int) := by omega
  have e2 : ¬ ((c : Int) < 0) := by omega
  have e3 : ¬ ((100 : Int) < (k : Int)) := by omega
  have hIl : I.length ≤ p2 ∧ p2 ≤ 9223372036854775807 := by
    obtain ⟨ao', cap', e, h1, h2, -⟩ := hI
    cases e
    exact ⟨h1, h2⟩
  have HLT := hide hL.lt
  have hF0 := rt_fr w cb c 6 0 false t (.slice a1 0 p1) (.slice a2 I.length p2) (.slice (some ⟨g3, off3, none⟩) 1 p3)
  have hL0 : LAt (rtW w cb c 6 0 false t (.slice a1 0 p1) (.slice a2 I.length p2) (.slice (some ⟨g3, off3, none⟩) 1 p3)) cb c := hA.set c
  obtain ⟨r, hrr⟩ : ∃ r, r = (I.all (goodD h dp) && (goodD h dp x && decide (ptsA h I + ptsD h x ≤ c))) := ⟨_, rfl⟩
  obtain ⟨s, hs⟩ : ∃ s, s = ptsA h I + ptsD h x := ⟨_, rfl⟩
  rw [← hrr, ← hs]
  rw [← hs] at hrr
  have HBD : Hid (I.all (goodD h dp) = false → r = false) := fun e => by rw [hrr, e]; rfl
  have HMN : Hid (c < ptsA h I → r = false) := fun e => by rw [hrr, decide_eq_false (by omega)]; simp
  have ye := (hcell3 _ (up_cb hU hcb hF0)).1
  unfold rtW at hF0 hL0 ye
  have z2 : (0 : Int) < (I.length : Int) := by omega
  have g6 : (kk3 == 6) = false := by rw [beq_eq_false_iff_ne]; exact hk6
  have HC3 := hide hcell3
  have HD3 := hide hdat3
  clear hcell3 hdat3 hk6
  have HF0 := hide hF0
  have HL0 := hide hL0
  have HB0 := hide hb
  unfold rtW at HB0
  have HRR := hide hrr
  have HS := hide hs
  have HI := hide hI
  have HU := hide hU
  have HC := hide hC
  have HD := hide hd
  clear hL hA hb hrr hs hI hU hC hd hF0 hL0
  go_enter Try.func45, Try.ntmps45
  go_wp2_with (go_at_call 44; refine (HH.out _).mono ?_; rintro e7 w7 ⟨rfl, hw⟩; replace hw := hw.symm; subst hw)
  go_loopw [11] (fun u wr => ∃ i m : Nat, u = .int .i64 (i : Int) ∧ i ≤ I.length ∧ c = m + kK I i ∧ LAt wr cb m ∧ DBx wr w.heap.size (.int .i64 6) (.int .i64 0) (.bool false) (.slice a1 0 p1) (.string t) (.slice a2 I.length p2) (.slice (some ⟨g3, off3, none⟩) 1 p3) ∧ (∀ j (hj : j < I.length), j < i → goodD h dp I[j] = true) ∧ Fr (fun j => j = cb) w wr) (fun u _ => I.length - (intOf u).toNat)
  case atStart => exact ⟨0, c, rfl, Nat.zero_le _, by simp [kK], HL0.out, HB0.out, (fun j _ hj => by omega), HF0.out⟩
  case round =>
    clear ye HB0 HF0 HL0 x1 x2 x3 y0 y1 y2 y3 y4 y5 y6
    obtain ⟨i, m, rfl, hi, hm, hL, hP, hgk, hF⟩ := hrel
    have hup := up_cb HU.out hcb hF
    have yy0 := hP.k0
    have yy5 := hP.k5
    have yy6 := hP.k6
    by_cases hil : i < I.length
    · obtain ⟨g2, off2, rfl, kk, km, kb, um, kt, ui, ur, hdat, ⟨q1, q2, q3, rfl⟩, ⟨z1, z2, z3, rfl⟩, ⟨t1, t2, t3, rfl⟩, f0, f1, f2, f3, f4, f5, f6⟩ := row_cells HI.out hup hil
      have hks := kK_succ I i hil
      have hkl := kK_le I (i + 1)
      obtain ⟨b4, hb4⟩ : ∃ x, x = (goodD h dp I[i] && decide (ptsD h I[i] ≤ m)) := ⟨_, rfl⟩
      have HBD4 : Hid (b4 = false → r = false) := fun e => by
        cases hx : goodD h dp I[i] with
        | false => exact HBD.out (all_bad hil hx)
        | true =>
          rw [hb4, hx, Bool.true_and, decide_eq_false_iff_not] at e
          exact HMN.out (by omega)
      have HGD4 : Hid (b4 = true → c = (m - ptsD h I[i]) + kK I (i + 1) ∧ ∀ j (hj : j < I.length), j < i + 1 → goodD h dp I[j] = true) := fun e => by
        rw [hb4, Bool.and_eq_true, decide_eq_true_eq] at e
        refine ⟨by omega, fun j hj hjk => ?_⟩
        by_cases ej : j = i
        · subst ej; exact e.1
        · exact hgk j hj (by omega)
      have HQ := hide (show Calls Try.prog 45 #[.pointer (some ⟨cb, 0, none⟩), .agg #[.int .i64 kk, .int .i64 km, .bool kb, .slice q1 q2 q3, .string kt, .slice z1 z2 z3, .slice t1 t2 t3], .int .i64 ((k : Int) + 1)] wr fun e w' => LF wr cb m (ptsD h I[i]) b4 e w' by
        have := HC.out w0 wr cb m I[i] _ _ _ _ _ _ _ (k + 1) hdat hup hcb hL (by omega) (by omega) (by omega) (HD.out _ (List.getElem_mem hil))
        rw [show 101 - (k + 1) = dp by omega, ← hb4] at this
        exact this)
      have HPP := hide hP
      have HFF := hide hF
      have hkI : (i : Int) < (I.length : Int) := by omega
      clear hks hkl hb4 hm hL hP hgk hF hup hdat
      cases b4
      · have HF := hide (HBD4.out rfl)
        go_wp2_with (go_at_call 45; refine HQ.out.mono ?_; rintro e8 w8 ⟨rfl, hc8, F8⟩; have HF8 := hide (HFF.out.trans F8 (fun _ _ e => e)); clear F8 hc8)
        go_ret
        exact ⟨by rw [HF.out]; rfl, (fun e => by rw [HF.out] at e; cases e), HF8.out⟩
      · have HG := hide (HGD4.out rfl)
        go_wp2_with (go_at_call 45; refine HQ.out.mono ?_; rintro e8 w8 ⟨rfl, hc8, F8⟩; have HF8 := hide (HFF.out.trans F8 (fun _ _ e => e)); have HC8 := hide hc8; have HP8 := hide (HPP.out.frc (by have := HLT.out; omega) F8); clear F8 hc8)
        exact ⟨⟨i + 1, _, by go_num, hil, HG.out.1, HC8.out trivial, HP8.out, HG.out.2, HF8.out⟩, by simp [intOf]; omega⟩
    · have e : i = I.length := by omega
      subst e
      rw [kK_all] at hm
      have HKA : Hid (I.all (goodD h dp) = true) := by
        unfold Hid
        rw [List.all_eq_true]
        intro x hx
        obtain ⟨j, hj, rfl⟩ := List.getElem_of_mem hx
        exact hgk j hj hj
      have hil' : ¬ ((I.length : Int) < (I.length : Int)) := by omega
      obtain ⟨f0, f1, f2, f3, f4, f5, f6⟩ := HC3.out wr hup
      obtain ⟨b5, hb5⟩ : ∃ y, y = (goodD h dp x && decide (ptsD h x ≤ m)) := ⟨_, rfl⟩
      have HT : Hid (r = b5) := by
        unfold Hid
        rw [HRR.out, HKA.out, HS.out, hb5, Bool.true_and]
        congr 1
        exact decide_eq_decide.2 ⟨fun _ => by omega, fun _ => by omega⟩
      have HQ := hide (show Calls Try.prog 45 #[.pointer (some ⟨cb, 0, none⟩), .agg #[.int .i64 kk3, .int .i64 km3, .bool kb3, .slice x31 x32 x33, .string kt3, .slice z31 z32 z33, .slice t31 t32 t33], .int .i64 ((k : Int) + 1)] wr fun e w' => LF wr cb m (ptsD h x) b5 e w' by
        have := HC.out w0 wr cb m x _ _ _ _ _ _ _ (k + 1) HD3.out hup hcb hL (by omega) (by omega) (by omega) hdx
        rw [show 101 - (k + 1) = dp by omega, ← hb5] at this
        exact this)
      have HM : Hid (c + 1 - (1 + s) = m - ptsD h x) := by
        unfold Hid
        rw [HS.out]
        omega
      have HFF := hide hF
      clear hm hL hP hgk hF hup hil hb5
      go_wp2_with (go_at_call 45; refine HQ.out.mono ?_; rintro e8 w8 ⟨rfl, hc8, F8⟩; have HF8 := hide (HFF.out.trans F8 (fun _ _ e => e)); have HC8 := hide hc8; clear F8 hc8)
      go_ret
      exact ⟨by rw [HT.out]; rfl, (fun e => by rw [HM.out]; exact HC8.out (by rw [← HT.out]; exact e)), HF8.out⟩

end Go.Proofs.Ytilcigjhogcjkaa
