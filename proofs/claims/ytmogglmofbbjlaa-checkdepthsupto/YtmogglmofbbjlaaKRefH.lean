/-
  What is proved here: the document's walk through a proto (tandemref11.walk), as the plain model goes.
-/
import Derived.Test.YtmogglmofbbjlaaKRefG
import Derived.Test.YtmogglmofbbjlaaKGo
import Derived.Deep.CutRange
import Derived.Deep.CutBlock
import Derived.Deep.DeepCutAuto
namespace Go.Proofs.Ytmogglmofbbjlaa
open Go Go.RowKit

set_option maxRecDepth 20000 in
set_option maxHeartbeats 8000000 in
theorem rwalk_any (w : World) (so : Option Addr) (np sc : Nat) (fr : Nat → Int) (p : PR) (q : Hd) (hfr : FreesAt w so np fr) (hs1 : np ≤ sc) (hs2 : sc ≤ 9223372036854775807) (hpb : PB p q) (hco : CodeAt w q.co p) (hl1 : 1 ≤ p.len) (hl2 : p.len ≤ 65536) (ha0 : 0 ≤ p.args) (ha1 : p.args ≤ 64)
    (hsB : ∀ g, so.map (·.block) = some g → g < w.heap.size) (hkB : ∀ g, q.co.map (·.block) = some g → g < w.heap.size)
    (R : Nat × Nat × (Nat → Int)) (hR : R = runM np fr p p.len (updI (fun _ => -1) 0 (dep0 p)) (updB (fun _ => false) 0 true)) :
    Calls Try.prog 20 #[.slice so np sc, .agg #[.string q.nm, .int .i64 p.args, .int .i64 p.free, .bool p.rest, .slice q.co p.len q.cc, .slice q.ka p.nc q.kc, .slice q.na p.nn q.nc]] w fun e w' => RWEnd w' p R e ∧ Fr (fun _ => False) w w' := by
  obtain ⟨g, off, eco⟩ : ∃ g off, q.co = some ⟨g, off, none⟩ := by
    rcases hco with e | ⟨g, off, e, _⟩
    · omega
    · exact ⟨g, off, e⟩
  have hgB := hkB g (by rw [eco]; rfl)
  have HEC := hide eco
  have HR := hide hR
  have HFR := hide hfr
  have HCO := hide hco
  have HPB := hide hpb
  clear hR hfr hco hpb eco
  go_enter Try.func20, Try.ntmps20
  go_wp2_with (first
    | (at_make; refine wpList_mkN rfl _ _ rfl .i64 .i64 _ _ p.len rfl rfl (by omega) (by omega) (by omega) ?_; intro w1 R1 F1 hlt1; have c1 : w1.cell? ⟨w.heap.size, 4, none⟩ = some (.slice q.co p.len q.cc) := (F1.cell (by simp) (fun e => e)).trans (by simp); have HF1 := hide F1; have HR1 := hide R1; clear F1 R1)
    | (at_make; refine wpList_mkB rfl _ _ rfl .i64 .i64 _ _ p.len rfl rfl (by omega) (by omega) (by omega) ?_; intro w2 R2 F2 hlt2; have HF2 := hide F2; have HR2 := hide R2; clear F2 R2))
  have e1 : (w.alloc (.cells #[.string q.nm, .int .i64 p.args, .int .i64 p.free, .bool p.rest, .slice q.co p.len q.cc, .slice q.ka p.nc q.kc, .slice q.na p.nn q.nc] 45)).heap.size = w.heap.size + 1 := by simp
  have hR1 := HR1.out
  rw [e1] at hR1 hlt1
  have F02 : Fr (fun _ => False) w w2 := Fr.trans (S := fun _ => False) ((Fr.refl _ _).alloc _) (HF1.out.trans HF2.out (fun _ _ e => e)) (fun _ _ e => e)
  have S0 : RSt w w2 w.heap.size (w.heap.size + 1) w1.heap.size so np sc fr p q (begD 0) (fun _ => false) := by
    have hz1 : w.heap.size + 1 ≤ w1.heap.size := by have := HF1.out.size; rw [e1] at this; exact this
    refine ⟨?_, ?_, HR2.out, (fun i hi => by cases hi), (fun i _ => by unfold begD; split <;> omega), HFR.out.frS F02 (fun _ _ e => e), HCO.out.fr F02 (fun _ _ _ _ e => e), F02, Nat.le_refl _, by omega, by omega, by omega, by omega, by omega, hsB, hkB⟩
    · exact (HF2.out.block _ (by omega) (fun e => e)).trans ((HF1.out.block _ (by rw [e1]; omega) (fun e => e)).trans (heap_alloc_new w _))
    · obtain ⟨cur, g1, g2, g3, g4⟩ := hR1
      exact ⟨cur, (HF2.out.block _ (by omega) (fun e => e)).trans g1, g2, fun i hi => by rw [g4 i hi]; simp [begD]⟩
  have HS0 := hide S0
  clear S0 F02 hR1 e1 HR1 HR2 HF1 HF2 c1
  obtain ⟨db, edb⟩ : ∃ db, db = w.heap.size + 1 := ⟨_, rfl⟩
  rw [← edb] at HS0 ⊢
  generalize w1.heap.size = eb at *
  generalize w.heap.size = xb at *
  clear edb hlt1 hlt2
  go_loopw [9] (fun u wr => ∃ i : Nat, u = .int .i64 (i : Int) ∧ i ≤ p.len ∧ RSt w wr xb db eb so np sc fr p q (begD i) (fun _ => false)) (fun u _ => p.len - (intOf u).toNat)
  case atStart => exact ⟨0, rfl, Nat.zero_le _, HS0.out⟩
  case round =>
    clear HS0
    obtain ⟨i, rfl, hi, hS⟩ := hrel
    by_cases hil : i < p.len
    · have r0 := hS.dep.cell hil
      have z0 := hS.dep.free i
      have HS := hide hS
      clear hS
      go_wp2
      exact ⟨⟨i + 1, by go_num, hil, by rw [← begD_upd]; exact HS.out.setX hil (by omega) (by omega) rfl⟩, by simp [intOf]; omega⟩
    · have ei : i = p.len := by omega
      subst ei
      have hS1 := hS.congr (d' := fun _ => -1) (fun i hi => by simp [begD, hi]) (fun i hi => by cases hi)
      have c1 : wr.cell? ⟨xb, 1, none⟩ = some (.int .i64 p.args) := cell_row hS.box rfl
      have c3 : wr.cell? ⟨xb, 3, none⟩ = some (.bool p.rest) := cell_row hS.box rfl
      have r0 := hS1.dep.cell (i := 0) (by omega)
      have z0 := hS1.dep.free 0
      have hS2 := hS1.setX (t := 0) (x := p.args) (by omega) (by omega) (by omega) rfl
      have hn1 := hS.n1
      have HS2 := hide hS2
      have hil' : ¬ ((p.len : Int) < (p.len : Int)) := by omega
      clear hS hS1 hS2 hi hil
      obtain ⟨rb, hrb⟩ : ∃ rb, rb = p.rest := ⟨_, rfl⟩
      rw [← hrb] at c3
      have HRB := hide hrb
      clear hrb
      go_upto_if 43 with fail
      go_cut [] from 21 (fun wc => Hid (RSt w wc xb db eb so np sc fr p q (updI (fun _ => -1) 0 (dep0 p)) (fun _ => false)))
      case first =>
        as_aux_lemma =>
          cases rb
          · have HS3 : Hid (RSt w (wr.setCell ⟨db, 0, none⟩ (.int .i64 p.args)) xb db eb so np sc fr p q (updI (fun _ => -1) 0 (dep0 p)) (fun _ => false)) := by
              unfold Hid
              rw [show dep0 p = p.args from by unfold dep0; rw [← HRB.out]; rfl]
              exact HS2.out
            clear HS2
            go_wp2_with fail
            go_meet
            exact HS3
          · have hS3 := HS2.out.setX (t := 0) (x := p.args + 1) (by omega) (by omega) (by omega) rfl
            rw [show updI (updI (fun _ => -1) 0 p.args) 0 (p.args + 1) = updI (fun _ => -1) 0 (dep0 p) from by rw [upd_twice, show dep0 p = p.args + 1 from by unfold dep0; rw [← HRB.out]; rfl]] at hS3
            have HS3 := hide hS3
            clear hS3 HS2
            go_wp2_with fail
            go_meet
            exact HS3
      case rest =>
        clear c1 c3 r0 z0 HS2 HRB
        have HD0 : Hid (0 ≤ dep0 p) := by unfold Hid dep0; split <;> omega
        go_wp2_with fail
        go_loopg [] p.len (fun kk wq => ∃ (d : Nat → Int) (dn : Nat → Bool), R = runM np fr p kk d (tOf d dn) ∧ left p.len d (tOf d dn) ≤ kk ∧ RSt w wq xb db eb so np sc fr p q d dn)
        case atStart => exact ⟨_, _, by rw [HR.out, tOf_start HD0.out], left_le _ _ _, hcut.out⟩
        case round =>
          clear hcut HD0 HR
          obtain ⟨d, dn, hR, hk, hS⟩ := hrel
          obtain ⟨T, hT⟩ : ∃ T, T = tOf d dn := ⟨_, rfl⟩
          rw [← hT] at hR hk
          have HRk := hide hR
          have HLk := hide hk
          have HS := hide hS
          have HT := hide hT
          clear hR hk hS hT
          go_wp2_with fail
          go_loop [10, 11] (fun u v => ∃ (m : Nat) (x : Int), m ≤ p.len ∧ v = .int .i64 ((m : Int) - 1) ∧ u = .int .i64 x ∧ AtP p.len m T x) (fun _ v => (intOf v + 1).toNat)
          case atStart => exact ⟨p.len, -1, Nat.le_refl _, rfl, rfl, AtP.start _ _⟩
          case round =>
            obtain ⟨m, x, hm, rfl, rfl, hA⟩ := hrel
            by_cases hm0 : 0 < m
            · obtain ⟨j, rfl⟩ : ∃ j, m = j + 1 := ⟨m - 1, by omega⟩
              have ej : (((j + 1 : Nat) : Int) - 1) = (j : Int) := by omega
              have r1 := HS.out.dep.cell (i := j) (by omega)
              have r2 := HS.out.don.cell (i := j) (by omega)
              have htop := HS.out.top j (by omega)
              have HA := hide hA
              clear hA
              as_aux_lemma =>
                by_cases hdj : 0 ≤ d j
                · have gd : decide (0 ≤ d j) = true := decide_eq_true hdj
                  obtain ⟨b, hb⟩ : ∃ b, dn j = b := ⟨_, rfl⟩
                  rw [hb] at r2
                  cases b
                  · have HTj : Hid (T j = true) := by unfold Hid; rw [HT.out]; simp [tOf, hdj, hb]
                    clear hb
                    go_wp2
                    exact ⟨⟨j, (j : Int), by omega, by go_num, by rw [ej], AtP.yes (by omega) HTj.out⟩, by simp [intOf] <;> omega⟩
                  · have HTj : Hid (T j = false) := by unfold Hid; rw [HT.out]; simp [tOf, hb]
                    clear hb
                    go_wp2
                    exact ⟨⟨j, x, by omega, by go_num, rfl, HA.out.no HTj.out⟩, by simp [intOf] <;> omega⟩
                · have gd : decide (0 ≤ d j) = false := decide_eq_false hdj
                  have HTj : Hid (T j = false) := by unfold Hid; rw [HT.out]; simp [tOf, hdj]
                  go_wp2
                  exact ⟨⟨j, x, by omega, by go_num, rfl, HA.out.no HTj.out⟩, by simp [intOf] <;> omega⟩
            · have em : m = 0 := by omega
              subst em
              rcases hA with ⟨rfl, hno⟩ | ⟨pc, rfl, -, hpc, htp, hless⟩
              · as_aux_lemma =>
                  have HG : Hid (R = (0, 0, d)) := by
                    unfold Hid
                    rw [HRk.out, runM_none (least_no (fun i hi => hno i (Nat.zero_le _) hi))]
                  clear hno
                  go_wp2
                  go_ret3
                  exact ⟨⟨_, by rw [HG.out]; rfl, fun _ => ⟨db, rfl, by rw [HG.out]; exact HS.out.dep⟩⟩, HS.out.fr⟩
              · have hl := least_of hpc htp (fun i hi => hless i (Nat.zero_le _) hi)
                have hTd : 0 ≤ d pc ∧ dn pc = false := by
                  rw [HT.out] at htp
                  simpa [tOf] using htp
                obtain ⟨k', ek'⟩ : ∃ k', gk = k' + 1 := ⟨gk - 1, by have := left_pos (d := d) hpc htp; have := HLk.out; omega⟩
                have hR2 := HRk.out
                have hleft : (lookM np fr p pc d (updB T pc false)).1 = 0 → left p.len (lookM np fr p pc d (updB T pc false)).2.1 (lookM np fr p pc d (updB T pc false)).2.2 ≤ k' := fun _ => by
                  have := look_left (np := np) (fr := fr) (p := p) hpc htp hTd.1
                  have := HLk.out
                  omega
                rw [ek', runM_some hl] at hR2
                have e1 : updB T pc false = tOf d (updB dn pc true) := by rw [HT.out, tOf_done]
                have hSE := HS.out.setE hpc hTd.1
                rw [e1] at hR2 hleft
                obtain ⟨G, hG⟩ : ∃ G, G = lookM np fr p pc d (tOf d (updB dn pc true)) := ⟨_, rfl⟩
                rw [← hG] at hR2 hleft
                have z1 := HS.out.don.free pc
                have r1 := HS.out.don.cell hpc
                have hpi : ¬ ((pc : Int) < 0) := by omega
                have HSE := hide hSE
                have HR2 := hide hR2
                have HLF := hide hleft
                have HGK := hide ek'
                have HG := hide hG
                clear hSE hR2 hleft hl hless htp ek' hG HRk HLk e1
                have hn1 := HS.out.n1
                have hn2 := HS.out.n2
                have hn3 := HS.out.n3
                have c0 : wr.cell? ⟨xb, 0, none⟩ = some (.string q.nm) := cell_row HS.out.box rfl
                have c1 : wr.cell? ⟨xb, 1, none⟩ = some (.int .i64 p.args) := cell_row HS.out.box rfl
                have c2 : wr.cell? ⟨xb, 2, none⟩ = some (.int .i64 p.free) := cell_row HS.out.box rfl
                have c3 : wr.cell? ⟨xb, 3, none⟩ = some (.bool p.rest) := cell_row HS.out.box rfl
                have c4 : wr.cell? ⟨xb, 4, none⟩ = some (.slice q.co p.len q.cc) := cell_row HS.out.box rfl
                have c5 : wr.cell? ⟨xb, 5, none⟩ = some (.slice q.ka p.nc q.kc) := cell_row HS.out.box rfl
                have c6 : wr.cell? ⟨xb, 6, none⟩ = some (.slice q.na p.nn q.nc) := cell_row HS.out.box rfl
                have hxl : xb < wr.heap.size := (Array.getElem?_eq_some_iff.1 HS.out.box).1
                have hdl := HS.out.dep.lt
                have hel := HS.out.don.lt
                have r3 := HS.out.dep.cell hpc
                have htop := HS.out.top pc hpc
                have b1 := HPB.out.c1
                have b2 := HPB.out.c2
                have ba := HPB.out.a pc hpc
                have bb := HPB.out.b pc hpc
                have hge : g ≠ eb := by
                  have h1 := HS.out.kB g (by rw [HEC.out]; rfl)
                  have h2 := HS.out.eB
                  omega
                have c4' : wr.cell? ⟨xb, 4, none⟩ = some (.slice (some ⟨g, off, none⟩) p.len q.cc) := by rw [← HEC.out]; exact c4
                clear c4
                have i0 := (HS.out.ins HEC.out hpc).1
                have i1 := (HS.out.ins HEC.out hpc).2.1
                have i2 := (HS.out.ins HEC.out hpc).2.2
                have hgl : g < wr.heap.size := World.block_lt_of_cell? wr _ i0
                have HKO := hide (fun (W : World) (hW : Fr (fun _ => False) (wr.setCell ⟨eb, pc, none⟩ (.bool true)) W) => show Calls Try.prog 28 #[.slice so np sc, .agg #[.string q.nm, .int .i64 p.args, .int .i64 p.free, .bool p.rest, .slice (some ⟨g, off, none⟩) p.len q.cc, .slice q.ka p.nc q.kc, .slice q.na p.nn q.nc], .agg #[.int .i64 (p.op pc), .int .i64 (p.a pc), .int .i64 (p.b pc)]] W fun e w' => e = .returned (.int .i64 (wrongM np fr p (p.op pc) (p.a pc) (p.b pc) : Int)) ∧ Fr (fun _ => False) W w' by
                  have := rown_any W so np sc fr p q (p.op pc) (p.a pc) (p.b pc) (HSE.out.new hW).fre hs1 hs2 HPB.out bb.1 bb.2
                  rw [HEC.out] at this
                  exact this)
                by_cases hw0 : wrongM np fr p (p.op pc) (p.a pc) (p.b pc) = 0
                · have hwb : (((wrongM np fr p (p.op pc) (p.a pc) (p.b pc) : Nat) : Int) != 0) = false := by rw [hw0]; rfl
                  have hz := wrong_zero hw0 bb.2
                  obtain ⟨k1, ek, hk1, hk2, x1, x2, x3, x4, x5⟩ := hz
                  have hp0 := pop_ge x1 x3
                  have hL := lookR (T := tOf d (updB dn pc true)) hw0 ek hk1 hk2 htop.1 hp0
                  rw [← HG.out] at hL
                  have hft := wants_fit x1 x2 x3 x4
                  have hul := turn_le hp0 hk2
                  have hug := fun h => turn_ge (dd := d pc) (k := k1) (a := p.a pc) (b := p.b pc) h hTd.1
                  have KWa := fun (W : World) => rwants_any k1 (p.a pc) (p.b pc) W hk1 hk2 hft.1 hft.2
                  obtain ⟨PP, hPP⟩ : ∃ x, x = popd k1 (p.a pc) (p.b pc) := ⟨_, rfl⟩
                  obtain ⟨UU, hUU⟩ : ∃ x, x = rTurn k1 (p.a pc) (p.b pc) := ⟨_, rfl⟩
                  rw [← hPP, ← hUU] at KWa hL
                  rw [← hPP] at hug hp0 x5
                  rw [← hUU] at hul hug
                  rw [ek] at i0 HKO hwb
                  have HL := hide hL
                  have HKW := hide KWa
                  clear ek KWa hL HG hw0 hft x1 x2 x3 x4 hPP hUU
                  by_cases few : d pc < PP
                  · as_aux_lemma =>
                      have HG : Hid (R = (31, pc, d)) := by
                        unfold Hid
                        rw [HR2.out, HL.out, if_pos few]
                        rfl
                      go_wp2_with (first
                        | (go_at_call 28; refine (HKO.out _ (by repeat (first | exact Fr.refl _ _ | apply Fr.alloc | apply Fr.drew | apply Fr.drewN))).mono ?_; rintro e5 w5 ⟨rfl, F5⟩; have hz5 : wr.heap.size < w5.heap.size := (Nat.lt_of_lt_of_le (by simp [World.setCell]) F5.size); have j0 : w5.cell? ⟨wr.heap.size, 0, none⟩ = some (.int .i64 (k1 : Int)) := (F5.cell (by simp [World.setCell]) (fun e => e)).trans (box_set _ _ _ _ _ _ _ rfl); have j1 : w5.cell? ⟨wr.heap.size, 1, none⟩ = some (.int .i64 (p.a pc)) := (F5.cell (by simp [World.setCell]) (fun e => e)).trans (box_set _ _ _ _ _ _ _ rfl); have j2 : w5.cell? ⟨wr.heap.size, 2, none⟩ = some (.int .i64 (p.b pc)) := (F5.cell (by simp [World.setCell]) (fun e => e)).trans (box_set _ _ _ _ _ _ _ rfl); have HF5 := hide F5; clear F5)
                        | (go_at_call 29; refine (HKW.out _).mono ?_; rintro e6 w6 ⟨rfl, F6⟩; have HF6 := hide F6; clear F6))
                      go_ret3
                      exact ⟨⟨_, by rw [HG.out]; rfl, fun h => absurd h (by rw [HG.out]; exact fun e => by cases e)⟩, HSE.out.fr.trans (Fr.trans (S := fun _ => False) ((Fr.refl _ _).alloc _) (HF5.out.trans HF6.out (fun _ _ e => e)) (fun _ _ e => e)) (fun _ _ e => e)⟩
                  · go_upto_if 104 with (first
                      | (go_at_call 28; refine (HKO.out _ (by repeat (first | exact Fr.refl _ _ | apply Fr.alloc | apply Fr.drew | apply Fr.drewN))).mono ?_; rintro e5 w5 ⟨rfl, F5⟩; have hz5 : wr.heap.size < w5.heap.size := (Nat.lt_of_lt_of_le (by simp [World.setCell]) F5.size); have j0 : w5.cell? ⟨wr.heap.size, 0, none⟩ = some (.int .i64 (k1 : Int)) := (F5.cell (by simp [World.setCell]) (fun e => e)).trans (box_set _ _ _ _ _ _ _ rfl); have j1 : w5.cell? ⟨wr.heap.size, 1, none⟩ = some (.int .i64 (p.a pc)) := (F5.cell (by simp [World.setCell]) (fun e => e)).trans (box_set _ _ _ _ _ _ _ rfl); have j2 : w5.cell? ⟨wr.heap.size, 2, none⟩ = some (.int .i64 (p.b pc)) := (F5.cell (by simp [World.setCell]) (fun e => e)).trans (box_set _ _ _ _ _ _ _ rfl); have HF5 := hide F5; clear F5)
                      | (go_at_call 29; refine (HKW.out _).mono ?_; rintro e6 w6 ⟨rfl, F6⟩; have t0 := (F6.cell hz5 (fun e => e)).trans j0; have t1 := (F6.cell hz5 (fun e => e)).trans j1; have t2 := (F6.cell hz5 (fun e => e)).trans j2; have HF6 := hide F6; clear F6))
                    have HF9 : Hid (Fr (fun _ => False) (wr.setCell ⟨eb, pc, none⟩ (.bool true)) w6) := hide (Fr.trans (S := fun _ => False) ((Fr.refl _ _).alloc _) (HF5.out.trans HF6.out (fun _ _ e => e)) (fun _ _ e => e))
                    have hz6 : wr.heap.size < w6.heap.size := Nat.lt_of_lt_of_le hz5 HF6.out.size
                    clear HF5 HF6 j0 j1 j2 hz5 HKO HKW
                    obtain ⟨SL, hSL⟩ : ∃ x, x = if k1 = 19 then d pc - 1 else d pc := ⟨_, rfl⟩
                    have HSL := hide hSL
                    clear hSL
                    go_cut [17] from 49 to 202 (fun s wc => s = .int .i64 SL ∧ w6 = wc)
                    case first =>
                      as_aux_lemma =>
                        by_cases e19 : k1 = 19
                        · have g19 : ((k1 : Int) == 19) = true := by rw [e19]; rfl
                          have HE : Hid (SL = d pc - 1) := by unfold Hid; rw [HSL.out, if_pos e19]
                          clear e19
                          go_wp2_with fail
                          go_meet
                          exact ⟨by rw [HE.out], rfl⟩
                        · have g19 : ((k1 : Int) == 19) = false := by rw [beq_eq_false_iff_ne]; omega
                          have HE : Hid (SL = d pc) := by unfold Hid; rw [HSL.out, if_neg e19]
                          clear e19
                          go_wp2_with fail
                          go_meet
                          exact ⟨by rw [HE.out], rfl⟩
                    case rest =>
                      have hc1 := hcut.1
                      have hc2 := hcut.2
                      clear hcut
                      subst hc1
                      subst hc2
                      obtain ⟨SB, hSB⟩ : ∃ x, x = slotB k1 (p.a pc) (d pc) := ⟨_, rfl⟩
                      obtain ⟨ib, hib⟩ : ∃ x, x = isIn (p.a pc) 0 (SL - 1) := ⟨_, rfl⟩
                      have KI := fun (W : World) => rin_any (p.a pc) SL W
                      rw [← hib] at KI
                      have HKI := hide KI
                      have HSB : Hid (SB = (decide (nA k1 = 2) && !ib)) := by unfold Hid; rw [hSB, hib, HSL.out]; rfl
                      have HSS := hide hSB
                      clear KI hib hSB
                      go_upto_region 30 with fail
                      go_cut [126] from 49 to 202 (fun s wc => s = .bool SB ∧ w6 = wc)
                      case first =>
                        as_aux_lemma =>
                          by_cases e2 : k1 = 2
                          · have v0 : w6.cell? ⟨wr.heap.size, 0, none⟩ = some (.int .i64 2) := by rw [t0, e2]; rfl
                            have HE : Hid (SB = !ib) := by unfold Hid; rw [HSB.out, e2]; rfl
                            clear t0 e2
                            go_wp2_with (go_at_call 19; refine (HKI.out _).mono ?_; rintro e7 w7 ⟨rfl, rfl⟩)
                            go_meet
                            exact ⟨by rw [HE.out], rfl⟩
                          · have g2 : ((k1 : Int) == 2) = false := by rw [beq_eq_false_iff_ne]; omega
                            by_cases e21 : k1 = 21
                            · have v0 : w6.cell? ⟨wr.heap.size, 0, none⟩ = some (.int .i64 21) := by rw [t0, e21]; rfl
                              have HE : Hid (SB = !ib) := by unfold Hid; rw [HSB.out, e21]; rfl
                              clear t0 e2 e21 g2
                              go_wp2_with (go_at_call 19; refine (HKI.out _).mono ?_; rintro e7 w7 ⟨rfl, rfl⟩)
                              go_meet
                              exact ⟨by rw [HE.out], rfl⟩
                            · have g21 : ((k1 : Int) == 21) = false := by rw [beq_eq_false_iff_ne]; omega
                              by_cases e19 : k1 = 19
                              · have v0 : w6.cell? ⟨wr.heap.size, 0, none⟩ = some (.int .i64 19) := by rw [t0, e19]; rfl
                                have HE : Hid (SB = !ib) := by unfold Hid; rw [HSB.out, e19]; rfl
                                clear t0 e2 e21 e19 g2 g21
                                go_wp2_with (go_at_call 19; refine (HKI.out _).mono ?_; rintro e7 w7 ⟨rfl, rfl⟩)
                                go_meet
                                exact ⟨by rw [HE.out], rfl⟩
                              · have g19 : ((k1 : Int) == 19) = false := by rw [beq_eq_false_iff_ne]; omega
                                have HE : Hid (SB = false) := by unfold Hid; rw [HSS.out, slot_no hk1 hk2 e2 e21 e19]
                                clear e2 e21 e19
                                go_wp2_with fail
                                go_meet
                                exact ⟨by rw [HE.out], rfl⟩
                      case rest =>
                        have hc1 := hcut.1
                        have hc2 := hcut.2
                        clear hcut
                        subst hc1
                        subst hc2
                        clear HKI HSB HSL
                        cases SB
                        · have hsl : ¬ slotB k1 (p.a pc) (d pc) = true := by rw [← HSS.out]; exact fun e => by cases e
                          by_cases over : 4096 < d pc + UU
                          · as_aux_lemma =>
                              have HG : Hid (R = (31, pc, d)) := by
                                unfold Hid
                                rw [HR2.out, HL.out, if_neg (Int.not_lt.2 few), if_neg hsl, if_pos over]
                                rfl
                              clear hsl HSS
                              go_wp2_with fail
                              go_ret3
                              exact ⟨⟨_, by rw [HG.out]; rfl, fun h => absurd h (by rw [HG.out]; exact fun e => by cases e)⟩, HSE.out.fr.trans HF9.out (fun _ _ e => e)⟩
                          · have HGO : Hid (G = goOnM p.len k1 pc (p.a pc) (d pc + UU) d (tOf d (updB dn pc true))) := by
                              unfold Hid
                              rw [HL.out, if_neg (Int.not_lt.2 few), if_neg hsl, if_neg over]
                            have hd0 : 0 ≤ d pc + UU := hug few
                            clear hsl HSS HL hug
                            have htop' : d pc + UU ≤ 4096 := by omega
                            clear over
                            obtain ⟨l, hl⟩ : ∃ l, l = ways k1 pc (p.a pc) := ⟨_, rfl⟩
                            have hll : l.length ≤ 2 := by rw [hl]; exact ways_len _ _ _
                            have HGO2 : Hid (G = if l.all (fun t => isIn t 0 ((p.len : Int) - 1)) then reachAll (d pc + UU) l d (tOf d (updB dn pc true)) else (32, d, tOf d (updB dn pc true))) := by
                              unfold Hid
                              rw [HGO.out, hl]
                              rfl
                            have HLW := hide hl
                            clear HGO hl
                            have hdl6 : db < w6.heap.size := Nat.lt_trans hdl (by omega)
                            go_upto_block 6 with fail
                            go_cut [18] from 49 to 202 (fun s wc => ∃ (ao : Option Addr) (cap : Nat), s = .slice ao l.length cap ∧ l.length ≤ cap ∧ cap ≤ 2 ∧ Hid (NX wc db ao l) ∧ Hid (RSt w wc xb db eb so np sc fr p q d (updB dn pc true)))
                            case first =>
                              as_aux_lemma =>
                                by_cases e13 : k1 = 13
                                · have g13 : ((k1 : Int) == 13) = true := by rw [e13]; rfl
                                  have HE : Hid (l = []) := by unfold Hid; rw [HLW.out, e13]; rfl
                                  clear e13
                                  go_wp2_with fail
                                  go_meet
                                  exact ⟨none, 0, by rw [HE.out]; rfl, by rw [HE.out]; exact Nat.le_refl _, by omega, .inl HE.out, HSE.out.new HF9.out⟩
                                · have g13 : ((k1 : Int) == 13) = false := by rw [beq_eq_false_iff_ne]; omega
                                  by_cases e12 : k1 = 12
                                  · have g12 : ((k1 : Int) == 12) = true := by rw [e12]; rfl
                                    have HE : Hid (l = []) := by unfold Hid; rw [HLW.out, e12]; rfl
                                    clear e12 e13
                                    go_wp2_with fail
                                    go_meet
                                    exact ⟨none, 0, by rw [HE.out]; rfl, by rw [HE.out]; exact Nat.le_refl _, by omega, .inl HE.out, HSE.out.new HF9.out⟩
                                  · have g12 : ((k1 : Int) == 12) = false := by rw [beq_eq_false_iff_ne]; omega
                                    by_cases e14 : k1 = 14
                                    · have g14 : ((k1 : Int) == 14) = true := by rw [e14]; rfl
                                      have HE : Hid (l = [p.a pc]) := by unfold Hid; rw [HLW.out, e14]; rfl
                                      clear e12 e13 e14
                                      go_wp2_with fail
                                      go_meet
                                      exact ⟨some ⟨w6.heap.size, 0, none⟩, 1, by rw [HE.out]; rfl, by rw [HE.out]; exact Nat.le_refl _, by omega, by unfold Hid; rw [HE.out]; exact NX.one hdl6 _ _, HSE.out.new (HF9.out.alloc _)⟩
                                    · have g14 : ((k1 : Int) == 14) = false := by rw [beq_eq_false_iff_ne]; omega
                                      by_cases e15 : k1 = 15
                                      · have g15 : ((k1 : Int) == 15) = true := by rw [e15]; rfl
                                        have HE : Hid (l = [(pc : Int) + 1, p.a pc]) := by unfold Hid; rw [HLW.out, e15]; rfl
                                        clear e12 e13 e14 e15
                                        go_wp2_with fail
                                        go_meet
                                        exact ⟨some ⟨w6.heap.size, 0, none⟩, 2, by rw [HE.out]; rfl, by rw [HE.out]; exact Nat.le_refl _, by omega, by unfold Hid; rw [HE.out]; exact NX.two hdl6 _ _ _, HSE.out.new (HF9.out.alloc _)⟩
                                      · have g15 : ((k1 : Int) == 15) = false := by rw [beq_eq_false_iff_ne]; omega
                                        have HE : Hid (l = [(pc : Int) + 1]) := by unfold Hid; rw [HLW.out, ways_other hk1 hk2 e12 e13 e14 e15]
                                        clear e12 e13 e14 e15
                                        go_wp2_with fail
                                        go_meet
                                        exact ⟨some ⟨w6.heap.size, 0, none⟩, 1, by rw [HE.out]; rfl, by rw [HE.out]; exact Nat.le_refl _, by omega, by unfold Hid; rw [HE.out]; exact NX.one hdl6 _ _, HSE.out.new (HF9.out.alloc _)⟩
                            case rest =>
                              obtain ⟨ao, cap, hc1, hlc, hcap, HN, HSR⟩ := hcut
                              subst hc1
                              clear HLW HSE HS HF9 t0 t1 t2 r1 r3 c0 c1 c2 c3 c5 c6 c4' i0 i1 i2 z1
                              go_wp2_with fail
                              go_loopw [19] (fun u wq => ∃ i : Nat, u = .int .i64 (i : Int) ∧ i ≤ l.length ∧ (l.take i).all (fun t => isIn t 0 ((p.len : Int) - 1)) = true ∧ NX wq db ao l ∧ RSt w wq xb db eb so np sc fr p q d (updB dn pc true)) (fun u _ => l.length - (intOf u).toNat)
                              case atStart => exact ⟨0, rfl, Nat.zero_le _, rfl, HN.out, HSR.out⟩
                              case round =>
                                clear HN HSR
                                obtain ⟨i, rfl, hi, hall, hN, hS⟩ := hrel
                                by_cases hil : i < l.length
                                · obtain ⟨t, ht⟩ : ∃ t, l[i]? = some t := ⟨_, List.getElem?_eq_getElem hil⟩
                                  obtain ⟨gx, ea, hgx, hc⟩ := hN.cell ht
                                  subst ea
                                  have y4 := cell_row hS.box (i := 4) (v := .slice q.co p.len q.cc) rfl
                                  have htk : l.take (i + 1) = l.take i ++ [t] := by
                                    rw [List.take_add_one, ht]; rfl
                                  have HN := hide hN
                                  have HS := hide hS
                                  by_cases hin : isIn t 0 ((p.len : Int) - 1) = true
                                  · as_aux_lemma =>
                                      have KI := fun (W : World) => rin_any t p.len W
                                      rw [hin] at KI
                                      have HKI := hide KI
                                      have HT2 : Hid ((l.take (i + 1)).all (fun t => isIn t 0 ((p.len : Int) - 1)) = true) := by
                                        unfold Hid
                                        rw [htk, List.all_append, hall]
                                        simp [hin]
                                      clear KI hin htk hall ht hN hS
                                      go_wp2_with fail
                                      go_quiet ((go_at_call 19; exact Calls.quiet_of_same (HKI.out _)))
                                      go_wp2
                                      exact ⟨⟨i + 1, by go_num, hil, HT2.out, HN.out.new ((Fr.refl _ _).drewN _), HS.out.new ((Fr.refl _ _).drewN _)⟩, by simp [intOf]; omega⟩
                                  · as_aux_lemma =>
                                      have hin' : isIn t 0 ((p.len : Int) - 1) = false := by simpa using hin
                                      have KI := fun (W : World) => rin_any t p.len W
                                      rw [hin'] at KI
                                      have HKI := hide KI
                                      have HG : Hid (R = (32, pc, d)) := by
                                        have hna : ¬ (l.all (fun t => isIn t 0 ((p.len : Int) - 1)) = true) := fun hh => hin (List.all_eq_true.1 hh t (List.mem_of_getElem? ht))
                                        unfold Hid
                                        rw [HR2.out, HGO2.out, if_neg hna]
                                        rfl
                                      clear KI hin hin' htk hall ht hN hS
                                      go_wp2_with fail
                                      go_quiet ((go_at_call 19; exact Calls.quiet_of_same (HKI.out _)))
                                      go_wp2
                                      go_ret3
                                      exact ⟨⟨_, by rw [HG.out]; rfl, fun h => absurd h (by rw [HG.out]; exact fun e => by cases e)⟩, (HS.out.new ((Fr.refl _ _).drewN _)).fr⟩
                                · have ei : i = l.length := by omega
                                  subst ei
                                  rw [List.take_length] at hall
                                  have HG0 : Hid (G = reachAll (d pc + UU) (l.drop 0) d (tOf d (updB dn pc true))) := by
                                    unfold Hid
                                    rw [HGO2.out, if_pos hall]
                                    rfl
                                  have HA : Hid (∀ t, t ∈ l → 0 ≤ t ∧ t ≤ (p.len : Int) - 1) := fun t ht => by simpa [isIn] using List.all_eq_true.1 hall t ht
                                  have HN := hide hN
                                  have HS := hide hS
                                  clear hall hil hi hN hS HGO2
                                  go_wp2
                                  go_loopw [20] (fun u wq => ∃ (i : Nat) (di : Nat → Int), u = .int .i64 (i : Int) ∧ i ≤ l.length ∧ G = reachAll (d pc + UU) (l.drop i) di (tOf di (updB dn pc true)) ∧ NX wq db ao l ∧ RSt w wq xb db eb so np sc fr p q di (updB dn pc true)) (fun u _ => l.length - (intOf u).toNat)
                                  case atStart => exact ⟨0, d, rfl, Nat.zero_le _, HG0.out, HN.out, HS.out⟩
                                  case round =>
                                    clear HG0 HN HS
                                    obtain ⟨i, di, rfl, hi, hG, hN, hS⟩ := hrel
                                    by_cases hil : i < l.length
                                    · obtain ⟨t, ht⟩ : ∃ t, l[i]? = some t := ⟨_, List.getElem?_eq_getElem hil⟩
                                      obtain ⟨gx, ea, hgx, hc⟩ := hN.cell ht
                                      subst ea
                                      have hr := HA.out t (List.mem_of_getElem? ht)
                                      rw [reachAll_drop ht] at hG
                                      obtain ⟨x, rfl⟩ : ∃ x : Nat, t = (x : Int) := ⟨t.toNat, by omega⟩
                                      rw [Int.toNat_natCast] at hG
                                      have hxl : x < p.len := by omega
                                      have r0 := hS.dep.cell hxl
                                      have z0 := hS.dep.free x
                                      have htx := hS.top x hxl
                                      by_cases hdd : reachD di x (d pc + UU) x = d pc + UU
                                      · as_aux_lemma =>
                                          rw [if_pos hdd, tOf_reach hS.ok hd0] at hG
                                          have hS2 := hS.setD hxl hd0 htop' hdd
                                          have HG := hide hG
                                          have HN2 := hide (hN.set x (.int .i64 (d pc + UU)))
                                          have HS2 := hide hS2
                                          by_cases hneg : 0 ≤ di x
                                          · have e2 : di x = d pc + UU := by
                                              rcases reach_at.1 hdd with h | h
                                              · omega
                                              · exact h
                                            have gd : decide (0 ≤ di x) = true := decide_eq_true hneg
                                            have gn : (di x != d pc + UU) = false := by rw [e2]; simp
                                            clear hG hN hS hS2 hdd ht hr e2
                                            go_wp2
                                            exact ⟨⟨i + 1, _, by go_num, hil, HG.out, HN2.out, HS2.out⟩, by simp [intOf]; omega⟩
                                          · have gd : decide (0 ≤ di x) = false := decide_eq_false hneg
                                            clear hG hN hS hS2 hdd ht hr
                                            go_wp2
                                            exact ⟨⟨i + 1, _, by go_num, hil, HG.out, HN2.out, HS2.out⟩, by simp [intOf]; omega⟩
                                      · as_aux_lemma =>
                                          rw [if_neg hdd] at hG
                                          have hneg : 0 ≤ di x := by
                                            by_cases h : di x < 0
                                            · exact absurd (reach_at.2 (.inl h)) hdd
                                            · omega
                                          have gd : decide (0 ≤ di x) = true := decide_eq_true hneg
                                          have gn : (di x != d pc + UU) = true := by
                                            rw [bne_iff_ne]
                                            exact fun h => hdd (reach_at.2 (.inr h))
                                          have HG : Hid (R = (31, pc, d)) := by
                                            unfold Hid
                                            rw [HR2.out, hG]
                                            rfl
                                          have HF := hide hS.fr
                                          clear hG hN hS hdd ht hr
                                          go_wp2
                                          go_ret3
                                          exact ⟨⟨_, by rw [HG.out]; rfl, fun h => absurd h (by rw [HG.out]; exact fun e => by cases e)⟩, HF.out⟩
                                    · as_aux_lemma =>
                                        rw [List.drop_of_length_le (by omega)] at hG
                                        have HG : Hid (G = (0, di, tOf di (updB dn pc true))) := hG
                                        have HS := hide hS
                                        clear hG hS hN
                                        have hil' : ¬ ((i : Int) < (l.length : Int)) := by omega
                                        go_wp2
                                        go_roundg k'
                                        case measure => have := HGK.out; omega
                                        case rel =>
                                          have h1 := HR2.out
                                          have h2 := HLF.out
                                          rw [HG.out] at h1 h2
                                          exact ⟨di, _, h1, h2 rfl, HS.out⟩
                        · as_aux_lemma =>
                            have HG : Hid (R = (33, pc, d)) := by
                              unfold Hid
                              rw [HR2.out, HL.out, if_neg (Int.not_lt.2 few), if_pos HSS.out.symm]
                              rfl
                            clear HSS
                            go_wp2_with fail
                            go_ret3
                            exact ⟨⟨_, by rw [HG.out]; rfl, fun h => absurd h (by rw [HG.out]; exact fun e => by cases e)⟩, HSE.out.fr.trans HF9.out (fun _ _ e => e)⟩
                · as_aux_lemma =>
                    have hwb : (((wrongM np fr p (p.op pc) (p.a pc) (p.b pc) : Nat) : Int) != 0) = true := by rw [bne_iff_ne]; omega
                    have HGR : Hid (R = (wrongM np fr p (p.op pc) (p.a pc) (p.b pc), pc, d)) := by
                      unfold Hid
                      rw [HR2.out, HG.out]
                      have e : lookM np fr p pc d (tOf d (updB dn pc true)) = (wrongM np fr p (p.op pc) (p.a pc) (p.b pc), d, tOf d (updB dn pc true)) := by
                        unfold lookM
                        rw [if_pos hw0]
                      rw [e, if_pos hw0]
                    have HW0 := hide hw0
                    clear hw0 HG HLF HR2
                    generalize wrongM np fr p (p.op pc) (p.a pc) (p.b pc) = wm at *
                    go_wp2_with (go_at_call 28; refine (HKO.out _ (by repeat (first | exact Fr.refl _ _ | apply Fr.alloc | apply Fr.drew | apply Fr.drewN))).mono ?_; rintro e5 w5 ⟨rfl, F5⟩; have HF5 := hide F5; clear F5)
                    go_ret3
                    exact ⟨⟨_, by rw [HGR.out]; rfl, fun h => absurd h (by rw [HGR.out]; exact HW0.out)⟩, HSE.out.fr.trans (Fr.trans (S := fun _ => False) ((Fr.refl _ _).alloc _) HF5.out (fun _ _ e => e)) (fun _ _ e => e)⟩

end Go.Proofs.Ytmogglmofbbjlaa
