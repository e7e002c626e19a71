/-
  What is proved here: FeedPlays' walk.
-/
import Derived.Test.YtcefeclgehijpaaFOps
import Derived.Test.YtcefeclgehijpaaFAwake
import Derived.Deep.CutBlock
import Derived.Deep.RegionHeld3
namespace Go.Proofs.Ytcefeclgehijpaa
open Go Go.RowKit

open Go.Instr in
theorem neq_self (p c m k : Int) : ∀ W, (binOp .neq 37 (.agg #[.int .i64 p, .int .i64 c, .int .i64 m, .int .i64 k]) (.agg #[.int .i64 p, .int .i64 c, .int .i64 m, .int .i64 k])).run Try.prog W = .ok (.bool false) W := by
  intro W
  rw [neq_feed]
  simp
theorem rem5 (z : Int) : -5 < z.tmod 5 ∧ z.tmod 5 < 5 := by
  have h1 := Int.tmod_lt_of_pos z (show (0 : Int) < 5 by omega)
  have h2 := Int.tmod_lt_of_pos (-z) (show (0 : Int) < 5 by omega)
  rw [Int.neg_tmod] at h2
  omega

set_option maxRecDepth 20000 in
set_option maxHeartbeats 4000000 in
theorem plays_walk (w : World) (mo : Option Addr) (k cap : Nat) (B : Nat → Nat) (hs : OpsF w mo k B) (hB0 : B 0 = 0) (hBk : ∀ i, i ≤ k → B i ≤ 1048576) (hk : k ≤ 1048576) :
    Calls Try.prog 3 #[.slice mo k cap] w fun e w' => e = .returned (.bool true) ∧ Below w.heap.size w w' := by
  obtain ⟨ii, hi, hz0, hz1, hz2⟩ := info_feed
  obtain ⟨i1, hj, hj0, hj1, hj2⟩ := info_int
  have HS := hide hs
  have HB := hide hBk
  have K1 := hide (fun W => new_any W)
  have K9 := hide (fun W => awake_any W)
  clear hs hBk
  go_enter Try.func3, Try.ntmps3
  go_upto_region 2 with (go_at_call 7; refine (K1.out _).mono ?_; rintro e1 w1 ⟨t, r, rfl, A1, F1, h1, h2⟩; have HA1 := hide A1; have HF1 := hide F1; clear A1 F1)
  obtain ⟨b, hb⟩ : ∃ b, b = w1.heap.size := ⟨_, rfl⟩
  have hST0 : Hid (ST w (w1.alloc (.cells #[.slice none 0 0, .slice none 0 0] 29)) t r b b 0 0) := by
    subst hb
    refine ⟨[], [], ⟨⟨[], 0, HA1.out.same ((Fr.refl _ _).alloc _), rfl, fun k hk => ?_⟩, ⟨_, _, Nat.le_refl _, heap_alloc_new w1 _, ⟨rfl, .inl ⟨rfl, rfl⟩⟩, ⟨rfl, .inl ⟨rfl, rfl⟩⟩⟩, ?_, HF1.out.alloc _⟩, eq_nil, Nat.le_refl _, Nat.le_refl _, (fun x hx => by cases hx), (fun x hx => by cases hx)⟩
    · rcases hk with rfl | rfl | ⟨x, hx, _⟩
      · exact h1
      · exact h2
      · cases hx
    · exact HF1.out.size
  go_wp2_with fail
  rw [← hb]
  clear hb
  go_loopw [5] (fun y wr => ∃ i : Nat, y = .int .i64 (i : Int) ∧ i ≤ k ∧ ST w wr t r b b i (B i)) (fun y _ => k - (intOf y).toNat)
  case atStart =>
    refine ⟨0, rfl, Nat.zero_le _, ?_⟩
    rw [hB0]
    exact hST0.out
  case round =>
    obtain ⟨i, rfl, hik, hST⟩ := hrel
    by_cases hil : i < k
    · have hiI : (i : Int) < (k : Int) := by omega
      obtain ⟨sb, so, rfl, hcel⟩ : ∃ sb so, mo = some ⟨sb, so, none⟩ ∧ ∀ i, i < k → ∃ z p c q ao n cap gi fo m cap' gf, OpAt w sb (so + i * 6) z p c q ao n cap gi fo m cap' gf ∧ B i + n + m + 1 ≤ B (i + 1) := by
        rcases HS.out with e | e
        · omega
        · exact e
      obtain ⟨z, p, c, q, ao, n, capn, gi, fo, m, capm, gf, ⟨f0, f1, f2, f3, f4, f5, hIR, hFR, hao, hfo⟩, hBi⟩ := hcel i hil
      have hB1 := HB.out (i + 1) hil
      have hfr : Fr (fun _ => False) w wr := by
        obtain ⟨S, M, hP, -⟩ := hST
        exact hP.fr
      have hsb := World.block_lt_of_cell? w _ f0
      rw [← hfr.cell hsb (fun e => e)] at f0 f1 f2 f3 f4 f5
      have hab := rem5 z
      have HST := hide hST
      have HIR := hide hIR
      have HFR := hide hFR
      have HAO := hide hao
      have HFO := hide hfo
      have HBI := hide hBi
      clear hST hcel hIR hFR hao hfo hfr hBi
      go_upto_if 27 with fail
      go_cut [7] from 13 to 114 (fun s wc => ∃ kk : Nat, kk < 5 ∧ s = .int .i64 (kk : Int) ∧ Hid (ST w wc t r b b i (B i)) ∧ Hid (XB wc wr.heap.size z p c q (.slice ao n capn) (.slice fo m capm)))
      case first =>
        have HX : Hid (XB (wr.alloc (.cells #[.int .i64 z, .int .i64 p, .int .i64 c, .int .i64 q, .slice ao n capn, .slice fo m capm] 31)) wr.heap.size z p c q (.slice ao n capn) (.slice fo m capm)) := hide (heap_alloc_new wr _)
        have HST1 : Hid (ST w (wr.alloc (.cells #[.int .i64 z, .int .i64 p, .int .i64 c, .int .i64 q, .slice ao n capn, .slice fo m capm] 31)) t r b b i (B i)) := hide (HST.out.same ((Fr.refl _ _).alloc _))
        by_cases hneg : z.tmod 5 < 0
        · obtain ⟨kk, hkk⟩ : ∃ kk : Nat, z.tmod 5 = -(kk : Int) := ⟨(-(z.tmod 5)).toNat, by omega⟩
          have hk5 : kk < 5 := by omega
          have hkn : 0 < kk := by omega
          have hki : (0 : Int) < (kk : Int) := by omega
          rw [hkk] at *
          go_wp2_with fail
          go_meet
          exact ⟨kk, hk5, by go_num, HST1, HX⟩
        · obtain ⟨kk, hkk⟩ : ∃ kk : Nat, z.tmod 5 = (kk : Int) := ⟨(z.tmod 5).toNat, by omega⟩
          have hk5 : kk < 5 := by omega
          rw [hkk] at *
          go_wp2_with fail
          go_meet
          exact ⟨kk, hk5, rfl, HST1, HX⟩
      case rest =>
        obtain ⟨kk, hk5, rfl, HST1, HX⟩ := hcut
        clear hab f0 f1 f2 f3 f4 f5 HST
        go_upto_block 2 with fail
        go_cut [] from 13 to 114 (fun wc => Hid (ST w wc t r b b (i + 1) (B (i + 1))) ∧ Hid (XB wc wr.heap.size z p c q (.slice ao n capn) (.slice fo m capm)))
        case first =>
          generalize wr.heap.size = xb at *
          obtain ⟨S, M, hP, hE, l1, l2, n1, n2⟩ := HST1.out
          have HP := hide hP
          have HE := hide hE
          have HL1 := hide l1
          have HL2 := hide l2
          have HN1 := hide n1
          have HN2 := hide n2
          have HBB := hide hP.bb
          have y1 := HX.out.k1
          have y2 := HX.out.k2
          have y3 := HX.out.k3
          have y4 := HX.out.k4
          have y5 := HX.out.k5
          have hB2 : B i ≤ 1048576 := by have := HBI.out; omega
          have hM2 : Hid (M.length ≤ 2097152) := hide (lenM l2 HBI.out hB1)
          have hnn : n ≤ 1048576 := by have := HBI.out; omega
          have hmm : m ≤ 1048576 := by have := HBI.out; omega
          clear hP hE l1 l2 n1 n2
          rcases (show kk = 0 ∨ kk = 1 ∨ kk = 2 ∨ kk = 3 ∨ kk = 4 by omega) with rfl | rfl | rfl | rfl | rfl
          · go_upto_region 14 with fail
            have hFw : Hid (Fr (fun _ => False) w wc.drew) := hide (HP.out.fr.drew)
            refine wp_region_held_drew (S := fun w' => w'.cell? ⟨xb, 1, none⟩ = some (.int .i64 p) ∧ w'.cell? ⟨xb, 2, none⟩ = some (.int .i64 c) ∧ w'.cell? ⟨xb, 4, none⟩ = some (.slice ao n capn)) (by kernel_rfl) (by go_keep) (fun hS0 => ?_)
            refine wpAnyH_take (i := 0) (oi := { dst := some 33, op := Op.move (Operand.tmp 3), type := 23, pos := "law.go:55", after := #[], guard := none }) (v := ?_) rfl (by kernel_rfl) (by kernel_rfl) (by kernel_rfl) (fun _ _ _ h => h) (Or.inl ⟨by rfl, ?_⟩) (by assumption) ?_; rotate_left; · (intro w hSw; (try dsimp only at hSw); go_simp; (try with_reducible rfl)); try simp only [Act.put, List.setIfInBounds_toArray, List.set_cons_zero, List.set_cons_succ]
            refine wpAnyH_take (i := 1) (oi := { dst := some 34, op := Op.fieldAddr 31 (Operand.tmp 6) 1, type := 0, pos := "law.go:55", after := #[], guard := none }) (v := ?_) rfl (by kernel_rfl) (by kernel_rfl) (by kernel_rfl) (fun _ _ _ h => h) (Or.inl ⟨by rfl, ?_⟩) (by assumption) ?_; rotate_left; · (intro w hSw; (try dsimp only at hSw); go_simp; (try with_reducible rfl)); try simp only [Act.put, List.setIfInBounds_toArray, List.set_cons_zero, List.set_cons_succ]
            refine wpAnyH_take (i := 2) (oi := { dst := some 35, op := Op.load 3 (Operand.tmp 34), type := 3, pos := "law.go:55", after := #[{ on := 1, ground := Ground.data }], guard := none }) (v := ?_) rfl (by kernel_rfl) (by kernel_rfl) (by kernel_rfl) (fun _ _ _ h => h) (Or.inl ⟨by rfl, ?_⟩) (by assumption) ?_; rotate_left; · (intro w hSw; (try dsimp only at hSw); go_simp; (try with_reducible rfl)); try simp only [Act.put, List.setIfInBounds_toArray, List.set_cons_zero, List.set_cons_succ]
            refine wpAnyH_take (i := 3) (oi := { dst := some 36, op := Op.fieldAddr 31 (Operand.tmp 6) 2, type := 0, pos := "law.go:55", after := #[], guard := none }) (v := ?_) rfl (by kernel_rfl) (by kernel_rfl) (by kernel_rfl) (fun _ _ _ h => h) (Or.inl ⟨by rfl, ?_⟩) (by assumption) ?_; rotate_left; · (intro w hSw; (try dsimp only at hSw); go_simp; (try with_reducible rfl)); try simp only [Act.put, List.setIfInBounds_toArray, List.set_cons_zero, List.set_cons_succ]
            refine wpAnyH_take (i := 4) (oi := { dst := some 37, op := Op.load 3 (Operand.tmp 36), type := 3, pos := "law.go:55", after := #[{ on := 3, ground := Ground.data }], guard := none }) (v := ?_) rfl (by kernel_rfl) (by kernel_rfl) (by kernel_rfl) (fun _ _ _ h => h) (Or.inl ⟨by rfl, ?_⟩) (by assumption) ?_; rotate_left; · (intro w hSw; (try dsimp only at hSw); go_simp; (try with_reducible rfl)); try simp only [Act.put, List.setIfInBounds_toArray, List.set_cons_zero, List.set_cons_succ]
            refine wpAnyH_take (i := 5) (oi := { dst := some 38, op := Op.fieldAddr 31 (Operand.tmp 6) 4, type := 0, pos := "law.go:55", after := #[], guard := none }) (v := ?_) rfl (by kernel_rfl) (by kernel_rfl) (by kernel_rfl) (fun _ _ _ h => h) (Or.inl ⟨by rfl, ?_⟩) (by assumption) ?_; rotate_left; · (intro w hSw; (try dsimp only at hSw); go_simp; (try with_reducible rfl)); try simp only [Act.put, List.setIfInBounds_toArray, List.set_cons_zero, List.set_cons_succ]
            refine wpAnyH_take (i := 6) (oi := { dst := some 39, op := Op.load 27 (Operand.tmp 38), type := 27, pos := "law.go:55", after := #[{ on := 5, ground := Ground.data }], guard := none }) (v := ?_) rfl (by kernel_rfl) (by kernel_rfl) (by kernel_rfl) (fun _ _ _ h => h) (Or.inl ⟨by rfl, ?_⟩) (by assumption) ?_; rotate_left; · (intro w hSw; (try dsimp only at hSw); go_simp; (try with_reducible rfl)); try simp only [Act.put, List.setIfInBounds_toArray, List.set_cons_zero, List.set_cons_succ]
            refine wpAnyH_ready (rs := [7]) (by kernel_rfl) (by simp) ?_; refine AllReadyH.cons (o := { dst := some 40, op := Op.call { callee := Callee.builtin Builtin.append, args := #[Operand.const (Value.slice none 0 0), Operand.tmp 39], argTypes := #[27, 27] }, type := 27, pos := "law.go:55", after := #[{ on := 6, ground := Ground.data }], guard := none }) rfl (fun K hK => ?_) AllReadyH.nil
            refine step_copy (by rfl) (wp_copy _ _ 27 (by rfl) 3 i1 (.int .i64 0) 1 8 Try.underlying27 hj hj0 hj1 hj2 rfl (by decide) (by rfl) ao n capn (by rfl) HAO.out (rowI gi n) (rowI_len gi n) (rowI_cells HIR.out hFw.out) (rowI_one gi n) (by unfold maxLen; omega) (by omega) ?_)
            intro v7 w7 hown F7
            obtain ⟨ao7, cap7, rfl, hIR7⟩ := own_irow hown
            have F7' : Fr (fun _ => False) wc w7 := ((Fr.refl _ wc).drew).trans F7 (fun _ _ e => e)
            have HP7 := hide (HP.out.same F7')
            have hx7 := HX.out.kp (kp_fr F7')
            have HX7 := hide hx7
            have x1 := hx7.k1
            have x2 := hx7.k2
            have x4 := hx7.k4
            have HIR7 := hide hIR7
            clear hown F7 F7' hx7 hIR7
            refine hK.out _ _ (by go_keep) (fun hHeld7 => ?_)
            clear hK K
            try simp only [Act.put, List.setIfInBounds_toArray, List.set_cons_zero, List.set_cons_succ]
            refine wpAnyH_ready (rs := [8]) (by kernel_rfl) (by simp) ?_; refine AllReadyH.cons (o := { dst := some 41, op := Op.call { callee := Callee.value (Operand.func 8), args := #[Operand.tmp 33, Operand.tmp 35, Operand.tmp 37, Operand.tmp 40], argTypes := #[23, 3, 3, 27] }, type := 0, pos := "law.go:55", after := #[{ on := 0, ground := Ground.data }, { on := 2, ground := Ground.data }, { on := 4, ground := Ground.data }, { on := 7, ground := Ground.data }, { on := 7, ground := Ground.chain }], guard := none }) rfl (fun K hK => ?_) AllReadyH.nil
            go_simp
            go_at_call 8
            refine (ps_see HP7.out p c ao7 n cap7 gi (by omega) HIR7.out).mono ?_
            rintro e8 w8 ⟨rfl, hP8, k8⟩
            have HP8 := hide hP8
            have hx8 := HX7.out.kp k8
            have HX8 := hide hx8
            have HIR8 := hide (irow_fr HIR.out hP8.fr)
            clear x1 x2 x4
            have x1 := hx8.k1
            have x2 := hx8.k2
            have x4 := hx8.k4
            clear hP8 k8 hx8
            go_wp2_with fail
            refine hK.out _ _ (by go_keep) (fun hHeld8 => ?_)
            clear hK K
            refine wpAnyH_done (by kernel_rfl) ?_ _
            have KR := hide (ps_rsee HP8.out p c ao n capn gi (by omega) HIR8.out (irow_below HIR.out HBB.out) hM2.out HE.out.n2)
            go_wp2_with (go_at_call 9; refine KR.out.mono ?_; rintro e9 w9 ⟨rfl, hP9, k9⟩; have HP9 := hide hP9; have HX9 := hide (HX8.out.kp k9); clear hP9 k9)
            go_meet
            exact ⟨hide (st_both HP9.out (HE.out.ins _) (len1 (add_len _ S) HL1.out HBI.out) (len1 (ins_len _ M).2 HL2.out HBI.out) ((HN1.out.add _).up (Nat.le_succ i)) ((HN2.out.ins _).up (Nat.le_succ i))), HX9⟩
          · obtain ⟨q', hq'⟩ : ∃ q', q' = if q < 0 then -2 else q := ⟨_, rfl⟩
            have kc := ps_call HP.out p c q
            rw [← hq'] at kc
            have KC := hide kc
            have KR : Hid (∀ W, PS w W t r b b (addS S ⟨p, c, 0, q'⟩) M → Calls Try.prog 11 #[.pointer (some ⟨b, 0, none⟩), .int .i64 p, .int .i64 c, .int .i64 q] W fun e w' => e = .returned (.tuple #[]) ∧ PS w w' t r b b (addS S ⟨p, c, 0, q'⟩) (insS ⟨p, c, 0, q'⟩ M) ∧ Kp W w') := by
              rw [hq']
              exact fun W h => ps_rcall h p c q hM2.out
            clear kc hq'
            go_wp2_with (first
              | (go_at_call 10; refine KC.out.mono ?_; rintro e8 w8 ⟨rfl, hP8, k8⟩; have HP8 := hide hP8; have hx8 := HX.out.kp k8; have x1 := hx8.k1; have x2 := hx8.k2; have x3 := hx8.k3; have HX8 := hide hx8; clear hP8 k8 hx8)
              | (go_at_call 11; refine (KR.out _ HP8.out).mono ?_; rintro e9 w9 ⟨rfl, hP9, k9⟩; have HP9 := hide hP9; have HX9 := hide (HX8.out.kp k9); clear hP9 k9))
            go_meet
            exact ⟨hide (st_both HP9.out (HE.out.ins _) (len1 (add_len _ S) HL1.out HBI.out) (len1 (ins_len _ M).2 HL2.out HBI.out) ((HN1.out.add _).up (Nat.le_succ i)) ((HN2.out.ins _).up (Nat.le_succ i))), HX9⟩
          · obtain ⟨tv, htv⟩ : ∃ tv, tv = times p c S + 1 := ⟨_, rfl⟩
            have ka : ∀ W, PS w W t r b b S M → Calls Try.prog 12 #[.pointer (some ⟨t, 0, none⟩), .int .i64 p, .int .i64 c] W fun e w' => e = .returned (.int .i64 tv) ∧ PS w w' t r b b (entS p c S) M ∧ Kp W w' := by
              rw [htv]
              exact fun W h => ps_enter h p c HN1.out (by omega)
            have kb : ∀ W, PS w W t r b b (entS p c S) M → Calls Try.prog 13 #[.pointer (some ⟨b, 0, none⟩), .int .i64 p, .int .i64 c] W fun e w' => e = .returned (.int .i64 tv) ∧ PS w w' t r b b (entS p c S) (entS p c M) ∧ Kp W w' := by
              rw [htv, HE.out.tm]
              exact fun W h => ps_renter h p c hM2.out HN2.out (by omega)
            have KA := hide ka
            have KB := hide kb
            have htt : (tv != tv) = false := by simp
            clear ka kb htv
            go_upto_region 20 with fail
            go_region_held3 (fun w' => w'.cell? ⟨xb, 1, none⟩ = some (.int .i64 p) ∧ w'.cell? ⟨xb, 2, none⟩ = some (.int .i64 c)) (go_keep)
              (first
              | (go_at_call 12; refine (KA.out _ (HP.out.same ((Fr.refl _ _).drew))).mono ?_; rintro e8 w8 ⟨rfl, hP8, k8⟩; have HP8 := hide hP8; have hx8 := (HX.out.kp (kp_fr ((Fr.refl _ wc).drew))).kp k8; have x1 := hx8.k1; have x2 := hx8.k2; have HX8 := hide hx8; clear hP8 k8 hx8)
              | (go_at_call 13; refine (KB.out _ HP8.out).mono ?_; rintro e9 w9 ⟨rfl, hP9, k9⟩; have HP9 := hide hP9; have hx9 := HX8.out.kp k9; have v1 := hx9.k1; have v2 := hx9.k2; have HX9 := hide hx9; clear hP9 k9 hx9))
            go_wp2_with fail
            go_meet
            exact ⟨hide (st_both HP9.out (HE.out.ent p c) (len1 (ent_len p c S) HL1.out HBI.out) (len1 (ent_len p c M) HL2.out HBI.out) (HN1.out.ent p c) (HN2.out.ent p c)), HX9⟩
          · have hrl : (rowV ((List.range m).map gf)).length = m * 4 := by rw [rowV_len]; simp
            have HCL := hide (frow_cells2 HFR.out HP.out.fr)
            go_upto_region 24 with (first
              | (at_builtin; refine wpList_plain rfl (fun K hK => wp_copy _ _ 26 rfl 37 ii (.agg #[.int .i64 0, .int .i64 0, .int .i64 0, .int .i64 0]) 4 32 Try.underlying26 hi hz0 hz1 hz2 rfl (by decide) rfl fo m capm rfl HFO.out (rowV ((List.range m).map gf)) hrl HCL.out (rowV_one _) (by unfold maxLen; omega) (by omega) (fun v7 w7 hown F7 => hK _ _ ?_)); have F7' : Fr (fun _ => False) wc w7 := F7; obtain ⟨ao7, cap7, rfl, hR7, hb7⟩ := frow_own hown; have HOWN := hide hown; have HP7 := hide (HP.out.same F7'); have HX7 := hide (HX.out.kp (kp_fr F7')); have HR7 := hide hR7; have HB7 := hide hb7; clear hown F7 F7' hR7 hb7)
              | (go_at_call 14; refine (ps_add HP7.out ao7 m cap7 gf (by omega) HR7.out (fun b' off e hne => ⟨(HB7.out b' off e hne).1, fun T clk hT hf => foot_rs hT hf (rs_row HOWN.out (.inl rfl) (by rw [e]; rfl))⟩)).mono ?_; rintro e8 w8 ⟨rfl, hP8, k8⟩; have HP8 := hide hP8; have hx8 := HX7.out.kp k8; have x5 := hx8.k5; have HX8 := hide hx8; have HFR8 := hide (frow_fr HFR.out hP8.fr); clear hP8 k8 hx8))
            have KR := hide (ps_radd HP8.out fo m capm gf hmm HFR8.out (frow_below HFR.out HBB.out) hM2.out)
            go_wp2_with (go_at_call 15; refine KR.out.mono ?_; rintro e9 w9 ⟨rfl, hP9, k9⟩; have HP9 := hide hP9; have HX9 := hide (HX8.out.kp k9); clear hP9 k9)
            go_meet
            exact ⟨hide (st_both HP9.out (HE.out.insN gf m) (lenm (addN_len gf S m) HL1.out HBI.out) (lenm (insN_len gf M m) HL2.out HBI.out) ((HN1.out.addN gf m).up (Nat.le_succ i)) ((HN2.out.insN gf m).up (Nat.le_succ i))), HX9⟩
          · go_wp2_with fail
            go_meet
            exact ⟨hide (st_both HP.out HE.out (len0 HL1.out HBI.out) (len0 HL2.out HBI.out) (HN1.out.up (Nat.le_succ i)) (HN2.out.up (Nat.le_succ i))), HX⟩
        case rest =>
          obtain ⟨HST2, HX2⟩ := hcut
          clear HST1 HX
          generalize wr.heap.size = xb at *
          obtain ⟨S, M, hP, hE, l1, l2, n1, n2⟩ := HST2.out
          obtain ⟨L, hL, hA, hR⟩ := ps_all hP hE (Nat.le_trans l1 (by omega)) (Nat.le_trans l2 (by omega))
          obtain ⟨m0, hm0⟩ : ∃ x, x = (look p c S).1 := ⟨_, rfl⟩
          obtain ⟨k0, hk0⟩ : ∃ x, x = (look p c S).2 := ⟨_, rfl⟩
          have ka : ∀ W, Fr (fun _ => False) wc W → Calls Try.prog 16 #[.pointer (some ⟨t, 0, none⟩), .int .i64 p, .int .i64 c] W fun e w' => e = .returned (fdV p c m0 k0) ∧ Fr (fun _ => False) W w' := by
            rw [hm0, hk0]
            exact fun W F => ps_at (hP.same F) p c
          have kb : ∀ W, Fr (fun _ => False) wc W → Calls Try.prog 17 #[.pointer (some ⟨b, 0, none⟩), .int .i64 p, .int .i64 c] W fun e w' => e = .returned (fdV p c m0 k0) ∧ Fr (fun _ => False) W w' := by
            rw [hm0, hk0, hE.lk]
            exact fun W F => ps_rat (hP.same F) p c (Nat.le_trans l2 (by omega))
          have hne := neq_self p c m0 k0
          have KA := hide ka
          have KB := hide kb
          have HA := hide hA
          have HR := hide hR
          have y1 := HX2.out.k1
          have y2 := HX2.out.k2
          clear ka kb hA hR hm0 hk0 hP hE l1 l2 n1 n2
          go_upto_region 25 with fail
          go_region_held3 (fun w' => w'.cell? ⟨xb, 1, none⟩ = some (.int .i64 p) ∧ w'.cell? ⟨xb, 2, none⟩ = some (.int .i64 c)) (go_keep)
            (first
            | (go_at_call 16; refine (KA.out _ ((Fr.refl _ _).drew)).mono ?_; rintro e5 w5 ⟨rfl, F5⟩; unfold fdV; have G5 : Fr (fun _ => False) wc w5 := ((Fr.refl _ wc).drew).trans F5 (fun _ _ e => e); have hx5 := HX2.out.kp (kp_fr G5); have p1 := hx5.k1; have p2 := hx5.k2; have HG5 := hide G5; clear F5 G5 hx5)
            | (go_at_call 17; refine (KB.out _ HG5.out).mono ?_; rintro e6 w6 ⟨rfl, F6⟩; unfold fdV; have G6 := HG5.out.trans F6 (fun _ _ e => e); have hx6 := HX2.out.kp (kp_fr G6); have q1 := hx6.k1; have q2 := hx6.k2; have HG6 := hide G6; clear F6 G6 hx6)
            | (go_at_call 19; refine (HA.out _ HG6.out).mono ?_; rintro e7 w7 ⟨ao7, cap7, rfl, R7, F7⟩; have G7 := HG6.out.trans F7 (fun _ _ e => e); have hx7 := HX2.out.kp (kp_fr G7); have r1 := hx7.k1; have r2 := hx7.k2; have HG7 := hide G7; have HR7 := hide R7; clear F7 G7 hx7 R7)
            | (go_at_call 20; refine (HR.out _ HG7.out).mono ?_; rintro e8 w8 ⟨ao8, cap8, rfl, R8, F8⟩; have G8 := HG7.out.trans F8 (fun _ _ e => e); have hx8 := HX2.out.kp (kp_fr G8); have s1 := hx8.k1; have s2 := hx8.k2; have HG8 := hide G8; have HR8 := hide R8; have HR78 := hide (frow_fr HR7.out F8); clear F8 G8 hx8 R8)
            | (go_at_call 18; refine (same_yes _ _ _ _ _ _ _ hL HR78.out HR8.out).mono ?_; rintro e9 w9 ⟨rfl, F9⟩; have G9 := HG8.out.trans F9 (fun _ _ e => e); have hx9 := HX2.out.kp (kp_fr G9); have t1 := hx9.k1; have t2 := hx9.k2; have HG9 := hide G9; clear F9 G9 hx9))
          go_wp2_with fail
          exact ⟨⟨i + 1, by go_num, hil, HST2.out.same HG9.out⟩, by simp [intOf]; omega⟩
    · have e : i = k := by omega
      subst e
      have hil' : ¬ ((i : Int) < (i : Int)) := by omega
      have hF : Hid (Fr (fun _ => False) w wr) := by
        obtain ⟨S, M, hP, -⟩ := hST
        exact hide hP.fr
      clear hST hil
      go_wp2_with (first | (go_at_call 21; refine (K9.out _).mono ?_; rintro e8 w8 ⟨rfl, F8⟩; have HF8 := hide (hF.out.trans F8 (fun _ _ e => e)); clear F8))
      go_ret
      exact ⟨rfl, HF8.out.below (Nat.le_refl _) (fun _ _ e => e)⟩

end Go.Proofs.Ytcefeclgehijpaa
