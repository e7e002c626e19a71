/-
  What is proved here: FeedTables' walk.
-/
import Derived.Test.YtcefeclgehijpaaFTwo
import Derived.Laws.AppendOwnNone
namespace Go.Proofs.Ytcefeclgehijpaa
open Go Go.RowKit

theorem FRow.fr {w w' : World} {ao : Option Addr} {n : Nat} {g : Nat → Fd} (h : FRow w ao n g) (F : Fr (fun _ => False) w w') : FRow w' ao n g := by
  rcases h with e | ⟨b, off, e, hc⟩
  · exact .inl e
  · refine .inr ⟨b, off, e, fun i hi => ?_⟩
    have hb : b < w.heap.size := World.block_lt_of_cell? w _ (hc i hi).1
    rw [F.cell hb (fun e => e), F.cell hb (fun e => e), F.cell hb (fun e => e), F.cell hb (fun e => e)]
    exact hc i hi
theorem foot_nil {t r k : Nat} (h : tfoot t r [] k) : k = t ∨ k = r := by
  rcases h with e | e | ⟨x, hx, _⟩
  · exact .inl e
  · exact .inr e
  · cases hx
theorem abs_rem {z : Int} {n : Nat} (hn : 0 < n) : -(n : Int) < z.tmod n ∧ z.tmod n < n := by
  have h1 := Int.tmod_lt_of_pos z (show (0 : Int) < n by omega)
  have h2 := Int.tmod_lt_of_pos (-z) (show (0 : Int) < n by omega)
  rw [Int.neg_tmod] at h2
  omega

set_option maxRecDepth 20000 in
set_option maxHeartbeats 4000000 in
theorem tables_walk (w : World) (ao bo : Option Addr) (n m cap cap' : Nat) (g : Nat → Fd) (z : Nat → Int) (hfs : FRow w ao n g) (hz : IRow w bo m z) (hn : n * 32 ≤ 140737488355328) (hm : m ≤ 9223372036854775807) (hao : ao = none → n = 0 ∧ cap = 0) :
    Calls Try.prog 5 #[.slice ao n cap, .slice bo m cap'] w fun e w' => e = .returned (.bool true) ∧ Below w.heap.size w w' := by
  obtain ⟨i, hi, hz0, hz1, hz2⟩ := info_feed
  have HFS := hide hfs
  have HZ := hide hz
  have K1 := hide (fun W => new_any W)
  have K9 := hide (fun W => awake_any W)
  clear hfs hz
  go_enter Try.func5, Try.ntmps5
  go_upto_region 2 with (go_at_call 7; refine (K1.out _).mono ?_; rintro e1 w1 ⟨ta, ra, rfl, A1, F1, h1, h2⟩; have HA1 := hide A1; have HF1 := hide F1; clear A1 F1)
  go_upto_region 3 with (go_at_call 7; refine (K1.out _).mono ?_; rintro e2 w2 ⟨tb, rb, rfl, A2, F2, h3, h4⟩; have HA2 := hide A2; have HF2 := hide F2; clear A2 F2)
  go_upto_region 5 with fail
  have hlg : ((List.range n).map g).length = n := by simp
  have FA2 := HA1.out.same HF2.out
  have hF02 : Fr (fun _ => False) w w2 := HF1.out.trans HF2.out (fun _ _ e => e)
  have HA1' := hide FA2
  have HF02 := hide hF02
  have hs2 : w.heap.size ≤ w2.heap.size := hF02.size
  have hta := FA2.lt
  have htal : Hid (∀ k, tfoot ta ra ([] : List PL) k → k < w1.heap.size ∧ w.heap.size ≤ k) := fun k hk => ⟨HA1.out.lt k hk, by rcases foot_nil hk with rfl | rfl <;> assumption⟩
  have htbl : Hid (∀ k, tfoot tb rb ([] : List PL) k → w1.heap.size ≤ k) := fun k hk => by rcases foot_nil hk with rfl | rfl <;> assumption
  clear FA2 hF02 hta
  go_cut [] from 18 to 21 (fun wc => ∃ Ta ca, TB w wc ta ra Ta ca tb rb [] 0 [] g n)
  case first =>
    have hfin : Hid (∀ (w3 w4 : World) (v' : Value), w3.ownsRow w2.heap.size 37 4 v' n (rowV ((List.range n).map g)) → Fr (fun _ => False) w2 w3 → Adv w3 w4 ta ra [] (addN g [] n) → ∃ Ta ca, TB w w4 ta ra Ta ca tb rb [] 0 [] g n) := by
      intro w3 w4 v' ho F3 A4
      obtain ⟨Ta, ca, A5, F5, g5, e5⟩ := A4
      have hsub : ∀ k, tfoot tb rb ([] : List PL) k → ¬ tfoot ta ra ([] : List PL) k := fun k hk hk2 => by have := (htal.out k hk2).1; have := htbl.out k hk; omega
      refine ⟨Ta, ca, ⟨A5, (HA2.out.same F3).fr F5 (fun k hk hs => hsub k hk hs), ?_, rfl, (fun f hf => by cases hf), ?_, ?_⟩⟩
      · rw [e5, addN_fold]
      · intro k hk
        refine ⟨fun hk2 => ?_, ?_⟩
        · rcases g5 k hk2 with q | q
          · exact hsub k hk q
          · have := HA2.out.lt k hk
            have := F3.size
            omega
        · have := htbl.out k hk
          have := HF1.out.size
          omega
      · have q : Fr (fun _ => False) w w3 := HF02.out.trans F3 (fun _ _ e => e)
        exact q.trans F5 (fun k hk hs => by have := (htal.out k hs).2; omega)
    have hnil : w2.ownsRow w2.heap.size 37 4 (.slice none 0 0) 0 [] := ⟨rfl, .inl ⟨rfl, rfl⟩⟩
    have hadd : Hid (∀ (w3 : World) (v' : Value), w3.ownsRow w2.heap.size 37 4 v' n (rowV ((List.range n).map g)) → Fr (fun _ => False) w2 w3 → Calls Try.prog 14 #[.pointer (some ⟨ta, 0, none⟩), v'] w3 fun e w4 => e = .returned (.tuple #[]) ∧ ∃ Ta ca, TB w w4 ta ra Ta ca tb rb [] 0 [] g n) := by
      intro w3 v' ho F3
      obtain ⟨ao', cap2, rfl, hrow, hbb⟩ := frow_own ho
      refine (add_any w3 ta ra 0 [] (HA1'.out.same F3) ao' n cap2 g (by omega) hrow (fun b off e hne => ⟨(hbb b off e hne).1, fun hk => ?_⟩)).mono ?_
      · have q1 := (hbb b off e hne).2
        have q2 := HA1'.out.lt b hk
        omega
      · rintro e4 w4 ⟨rfl, A4⟩
        exact ⟨rfl, hfin.out w3 w4 _ ho F3 A4⟩
    rcases ao with _ | ad
    · obtain ⟨rfl, rfl⟩ := hao rfl
      clear hao
      go_wp2_with (first
        | (at_builtin; refine wpList_append_own_none rfl _ _ 26 rfl w2.heap.size 37 i 4 Try.underlying26 hi _ _ _ rfl hnil rfl ?_)
        | (go_at_call 14; refine (hadd.out _ _ hnil (Fr.refl _ _)).mono ?_; rintro e4 w4 ⟨rfl, h4'⟩; have HTB := hide h4'; clear h4'))
      go_meet
      exact HTB.out
    · have hnews : ∀ j u, (rowV ((List.range n).map g))[j]? = some u → w2.cell? (ad.add j) = some u := by
        rcases HFS.out with e | ⟨b, off, e, hc⟩
        · subst e
          intro j u hj
          simp [rowV] at hj
        · cases e
          refine frow_cells (fun k hk => ?_)
          have hb : b < w.heap.size := World.block_lt_of_cell? w _ (hc k hk).1
          rw [HF02.out.cell hb (fun e => e), HF02.out.cell hb (fun e => e), HF02.out.cell hb (fun e => e), HF02.out.cell hb (fun e => e)]
          exact hc k hk
      have hrl : (rowV ((List.range n).map g)).length = n * 4 := by rw [rowV_len, hlg]
      have h1c : ∀ u ∈ rowV ((List.range n).map g), u.oneCell' = true := rowV_one _
      clear hao
      go_wp2_with (first
        | (at_builtin; refine wpList_append_own _ rfl _ _ 26 rfl w2.heap.size 37 i (.agg #[.int .i64 0, .int .i64 0, .int .i64 0, .int .i64 0]) 4 32 Try.underlying26 hi hz0 hz1 hz2 rfl (by decide) _ _ _ rfl hnil ad n _ (rowV ((List.range n).map g)) rfl hrl hnews h1c (by unfold maxLen; omega) (by omega) (Nat.le_refl _) ?_; intro v' w3 hown hgrow hx; simp only [Nat.zero_add, List.nil_append] at hown; have HO3 := hide hown; have HG3 := hide hgrow; clear hown hgrow hx)
        | (go_at_call 14; refine (hadd.out _ _ HO3.out ((Fr.refl _ _).grow HG3.out (fun k _ e => by cases e))).mono ?_; rintro e4 w4 ⟨rfl, h4'⟩; have HTB := hide h4'; clear h4'))
      go_meet
      exact HTB.out
  case rest =>
    obtain ⟨Ta, ca, hTB⟩ := hcut
    have HTB := hide hTB
    have hLA : Ta.length ≤ n := len_le hTB.A.ky hTB.la (fun f hf => by obtain ⟨q, hq, rfl⟩ := List.mem_map.1 hf; exact ⟨q, List.mem_range.1 hq, rfl⟩)
    have HLA : Hid (Ta.length * 32 ≤ 140737488355328) := by unfold Hid; omega
    clear hTB HA2 HF2 HA1 HF1 HA1' htal htbl hao K1 hLA
    rcases Nat.eq_zero_or_pos n with hn0 | hn0
    · subst hn0
      have HALL : Hid (∀ i, i < 0 → g i ∈ ([] : List Fd)) := fun i hi => by omega
      have HLB : Hid (([] : List PL).length * 32 ≤ 140737488355328) := by unfold Hid; simp
      go_wp2_with fail
      go_loopw [7] (fun u wr => u = .int .i64 0 ∧ TB w wr ta ra Ta ca tb rb [] 0 [] g 0) (fun _ _ => 0)
      case atStart => exact ⟨rfl, HTB.out⟩
      case round =>
        obtain ⟨rfl, hB⟩ := hrel
        have HBz := hide hB
        clear hB
        by_cases hm0 : (0 : Int) < (m : Int)
        · go_wp2_with fail
          go_loopw [9] (fun u wx => u = .int .i64 (-1) ∧ wx = wr) (fun _ _ => 0)
          case atStart => exact ⟨rfl, rfl⟩
          case round =>
            obtain ⟨rfl, rfl⟩ := hrel
            have HBF := HBz
            go_wp2_with (first
        | (go_at_call_of 19 (Value.pointer (some ⟨ta, 0, none⟩)); refine (all_any _ ta ra ca Ta HBF.out.A HLA.out).mono ?_; rintro e5 w5 ⟨ao5, cap5, L5, rfl, R5, P5, S5, F5, l5⟩; have HR5 := hide R5; have HP5 := hide P5; have HS5 := hide S5; have HBF5 := hide (HBF.out.same F5); clear R5 P5 S5 F5)
        | (go_at_call_of 19 (Value.pointer (some ⟨tb, 0, none⟩)); refine (all_any _ tb rb 0 [] HBF5.out.B HLB.out).mono ?_; rintro e6 w6 ⟨ao6, cap6, L6, rfl, R6, P6, S6, F6, l6⟩; have hLL : L6 = L5 := (all_same HBF5.out.A.ky HBF5.out.B.ky (HBF5.out.done HALL.out) HP5.out P6 HS5.out S6).symm; subst hLL; have HR6 := hide R6; have HR56 := hide (HR5.out.fr F6); have HBF6 := hide (HBF5.out.same F6); clear R6 P6 S6 F6)
        | (go_at_call 18; refine (same_yes _ _ _ _ _ _ _ l5 HR56.out HR6.out).mono ?_; rintro e7 w7 ⟨rfl, F7⟩; have HBF7 := hide (HBF6.out.same F7); clear F7)
        | (go_at_call 21; refine (K9.out _).mono ?_; rintro e8 w8 ⟨rfl, F8⟩; have HF8 := hide (HBF7.out.fr.trans F8 (fun _ _ e => e)); clear F8))
            go_ret
            exact ⟨rfl, HF8.out.below (Nat.le_refl _) (fun _ _ e => e)⟩
        · go_wp2_with fail
          go_loopw [9] (fun u wx => u = .int .i64 (-1) ∧ wx = wr) (fun _ _ => 0)
          case atStart => exact ⟨rfl, rfl⟩
          case round =>
            obtain ⟨rfl, rfl⟩ := hrel
            have HBF := HBz
            go_wp2_with (first
        | (go_at_call_of 19 (Value.pointer (some ⟨ta, 0, none⟩)); refine (all_any _ ta ra ca Ta HBF.out.A HLA.out).mono ?_; rintro e5 w5 ⟨ao5, cap5, L5, rfl, R5, P5, S5, F5, l5⟩; have HR5 := hide R5; have HP5 := hide P5; have HS5 := hide S5; have HBF5 := hide (HBF.out.same F5); clear R5 P5 S5 F5)
        | (go_at_call_of 19 (Value.pointer (some ⟨tb, 0, none⟩)); refine (all_any _ tb rb 0 [] HBF5.out.B HLB.out).mono ?_; rintro e6 w6 ⟨ao6, cap6, L6, rfl, R6, P6, S6, F6, l6⟩; have hLL : L6 = L5 := (all_same HBF5.out.A.ky HBF5.out.B.ky (HBF5.out.done HALL.out) HP5.out P6 HS5.out S6).symm; subst hLL; have HR6 := hide R6; have HR56 := hide (HR5.out.fr F6); have HBF6 := hide (HBF5.out.same F6); clear R6 P6 S6 F6)
        | (go_at_call 18; refine (same_yes _ _ _ _ _ _ _ l5 HR56.out HR6.out).mono ?_; rintro e7 w7 ⟨rfl, F7⟩; have HBF7 := hide (HBF6.out.same F7); clear F7)
        | (go_at_call 21; refine (K9.out _).mono ?_; rintro e8 w8 ⟨rfl, F8⟩; have HF8 := hide (HBF7.out.fr.trans F8 (fun _ _ e => e)); clear F8))
            go_ret
            exact ⟨rfl, HF8.out.below (Nat.le_refl _) (fun _ _ e => e)⟩
    · have hnI : (n : Int) > 0 := by omega
      go_wp2_with fail
      go_loopw [7] (fun u wr => ∃ j : Nat, u = .int .i64 (j : Int) ∧ j ≤ m ∧ ∃ Tb cb lb, TB w wr ta ra Ta ca tb rb Tb cb lb g n) (fun u _ => m - (intOf u).toNat)
      case atStart => exact ⟨0, rfl, Nat.zero_le _, [], 0, [], HTB.out⟩
      case round =>
        obtain ⟨j, rfl, hj, Tb, cb, lb, hB⟩ := hrel
        obtain ⟨b, off, rfl, hcf⟩ : ∃ b off, ao = some ⟨b, off, none⟩ ∧ ∀ i, i < n → w.cell? ⟨b, off + i * 4, none⟩ = some (.int .i64 (g i).p) ∧ w.cell? ⟨b, off + i * 4 + 1, none⟩ = some (.int .i64 (g i).c) ∧ w.cell? ⟨b, off + i * 4 + 2, none⟩ = some (.int .i64 (g i).m) ∧ w.cell? ⟨b, off + i * 4 + 3, none⟩ = some (.int .i64 (g i).k) := by
          rcases HFS.out with e | e
          · omega
          · exact e
        have HST : Hid (∀ W, Fr (fun _ => False) w W → ∀ kk, kk < n → ∃ p c mm k, g kk = ⟨p, c, mm, k⟩ ∧ W.cell? ⟨b, off + kk * 4, none⟩ = some (.int .i64 p) ∧ W.cell? ⟨b, off + kk * 4 + 1, none⟩ = some (.int .i64 c) ∧ W.cell? ⟨b, off + kk * 4 + 2, none⟩ = some (.int .i64 mm) ∧ W.cell? ⟨b, off + kk * 4 + 3, none⟩ = some (.int .i64 k)) := by
          intro W F kk hk
          have hb : b < w.heap.size := World.block_lt_of_cell? w _ (hcf kk hk).1
          rw [F.cell hb (fun e => e), F.cell hb (fun e => e), F.cell hb (fun e => e), F.cell hb (fun e => e)]
          exact ⟨_, _, _, _, rfl, hcf kk hk⟩
        clear hcf
        by_cases hjm : j < m
        · have hjI : (j : Int) < (m : Int) := by omega
          obtain ⟨b', off', rfl, hcz⟩ : ∃ b off, bo = some ⟨b, off, none⟩ ∧ ∀ i, i < m → w.cell? ⟨b, off + i, none⟩ = some (.int .i64 (z i)) := by
            rcases HZ.out with e | e
            · omega
            · exact e
          have q0 := hcz j hjm
          rw [← hB.fr.cell (World.block_lt_of_cell? w _ q0) (fun e => e)] at q0
          generalize z j = zj at *
          have hab := abs_rem (z := zj) hn0
          have HB := hide hB
          by_cases hneg : zj.tmod n < 0
          · obtain ⟨kk, hkk⟩ : ∃ kk : Nat, zj.tmod n = -(kk : Int) := ⟨(-(zj.tmod n)).toNat, by omega⟩
            have hkn : kk < n := by omega
            have hk0 : -(kk : Int) < 0 := by omega
            obtain ⟨p, c, mm, k, hgk, k0, k1, k2, k3⟩ := HST.out wr hB.fr kk hkn
            rw [hkk] at hneg hab
            clear hB hcz
            go_wp2_with fail
            have hb2 : FB (wr.alloc (.cells #[.int .i64 p, .int .i64 c, .int .i64 mm, .int .i64 k] 37)) wr.heap.size ⟨p, c, mm, k⟩ := heap_alloc_new wr _
            have HBx := HB.out.same ((Fr.refl _ wr).alloc (.cells #[.int .i64 p, .int .i64 c, .int .i64 mm, .int .i64 k] 37))
            refine (add_any _ tb rb cb Tb HBx.B (some ⟨wr.heap.size, 0, none⟩) 1 1 (fun _ => ⟨p, c, mm, k⟩) (by omega) hb2.row (fun b off e _ => ?_)).mono ?_
            · cases e
              exact ⟨by simp, fun hk => by have := HB.out.B.lt _ hk; omega⟩
            rintro e' w' ⟨rfl, A⟩
            have HNX := hide (HBx.add A ⟨kk, hkn, hgk.symm⟩)
            clear hb2 HBx A
            go_wp2_with fail
            refine ⟨⟨j + 1, by go_num, hjm, ?_⟩, by simp [intOf]; omega⟩
            obtain ⟨Tb', cb', q⟩ := HNX.out
            exact ⟨Tb', cb', _, q⟩
          · obtain ⟨kk, hkk⟩ : ∃ kk : Nat, zj.tmod n = (kk : Int) := ⟨(zj.tmod n).toNat, by omega⟩
            have hkn : kk < n := by omega
            have hk0 : ¬ ((kk : Int) < 0) := by omega
            obtain ⟨p, c, mm, k, hgk, k0, k1, k2, k3⟩ := HST.out wr hB.fr kk hkn
            rw [hkk] at hneg hab
            clear hB hcz
            go_wp2_with fail
            have hb2 : FB (wr.alloc (.cells #[.int .i64 p, .int .i64 c, .int .i64 mm, .int .i64 k] 37)) wr.heap.size ⟨p, c, mm, k⟩ := heap_alloc_new wr _
            have HBx := HB.out.same ((Fr.refl _ wr).alloc (.cells #[.int .i64 p, .int .i64 c, .int .i64 mm, .int .i64 k] 37))
            refine (add_any _ tb rb cb Tb HBx.B (some ⟨wr.heap.size, 0, none⟩) 1 1 (fun _ => ⟨p, c, mm, k⟩) (by omega) hb2.row (fun b off e _ => ?_)).mono ?_
            · cases e
              exact ⟨by simp, fun hk => by have := HB.out.B.lt _ hk; omega⟩
            rintro e' w' ⟨rfl, A⟩
            have HNX := hide (HBx.add A ⟨kk, hkn, hgk.symm⟩)
            clear hb2 HBx A
            go_wp2_with fail
            refine ⟨⟨j + 1, by go_num, hjm, ?_⟩, by simp [intOf]; omega⟩
            obtain ⟨Tb', cb', q⟩ := HNX.out
            exact ⟨Tb', cb', _, q⟩
        · have hjI : ¬ ((j : Int) < (m : Int)) := by omega
          have HB0 := hide hB
          clear hB
          go_wp2_with fail
          go_loopw [9] (fun u wx => ∃ Tb cb lb, TB w wx ta ra Ta ca tb rb Tb cb lb g n ∧ ((∃ i : Nat, u = .int .i64 (i : Int) ∧ i < n ∧ ∀ q, i < q → q < n → g q ∈ lb) ∨ (u = .int .i64 (-1) ∧ ∀ q, q < n → g q ∈ lb))) (fun u _ => (intOf u + 1).toNat)
          case atStart =>
            refine ⟨Tb, cb, lb, HB0.out, .inl ⟨n - 1, ?_, by omega, fun q h1 h2 => by omega⟩⟩
            congr 1
            omega
          case round =>
            obtain ⟨Tb2, cb2, lb2, hB2, hcase⟩ := hrel
            rcases hcase with ⟨i2, rfl, hi2, hq⟩ | ⟨rfl, hall⟩
            · have hge : (i2 : Int) ≥ 0 := by omega
              obtain ⟨p, c, mm, k, hgk, k0, k1, k2, k3⟩ := HST.out _ hB2.fr i2 hi2
              have HB := hide hB2
              have HQ := hide hq
              clear hB2 hq
              go_wp2_with fail
              have hb2 : FB (wr.alloc (.cells #[.int .i64 p, .int .i64 c, .int .i64 mm, .int .i64 k] 37)) wr.heap.size ⟨p, c, mm, k⟩ := heap_alloc_new wr _
              have HBx := HB.out.same ((Fr.refl _ wr).alloc (.cells #[.int .i64 p, .int .i64 c, .int .i64 mm, .int .i64 k] 37))
              refine (add_any _ tb rb cb2 Tb2 HBx.B (some ⟨wr.heap.size, 0, none⟩) 1 1 (fun _ => ⟨p, c, mm, k⟩) (by omega) hb2.row (fun b off e _ => ?_)).mono ?_
              · cases e
                exact ⟨by simp, fun hk => by have := HB.out.B.lt _ hk; omega⟩
              rintro e' w' ⟨rfl, A⟩
              have HNX := hide (HBx.add A ⟨i2, hi2, hgk.symm⟩)
              clear hb2 HBx A
              go_wp2_with fail
              obtain ⟨Tb', cb', q⟩ := HNX.out
              refine ⟨⟨Tb', cb', _, q, ?_⟩, by simp [intOf]⟩
              rcases Nat.eq_zero_or_pos i2 with e0 | e0
              · subst e0
                refine .inr ⟨by simp, fun q2 h2 => ?_⟩
                by_cases e1 : q2 = 0
                · subst e1
                  rw [← hgk]
                  simp
                · exact List.mem_append.2 (.inl (HQ.out q2 (by omega) h2))
              · refine .inl ⟨i2 - 1, by congr 1; omega, by omega, fun q2 h1 h2 => ?_⟩
                by_cases e1 : q2 = i2
                · subst e1
                  rw [← hgk]
                  simp
                · exact List.mem_append.2 (.inl (HQ.out q2 (by omega) h2))
            · have HALL := hide hall
              have hlB : Tb2.length ≤ n := len_le hB2.B.ky hB2.lb' hB2.mem
              have HLB : Hid (Tb2.length * 32 ≤ 140737488355328) := by unfold Hid; omega
              have HBF := hide hB2
              clear hall hB2 hlB
              go_wp2_with (first
        | (go_at_call_of 19 (Value.pointer (some ⟨ta, 0, none⟩)); refine (all_any _ ta ra ca Ta HBF.out.A HLA.out).mono ?_; rintro e5 w5 ⟨ao5, cap5, L5, rfl, R5, P5, S5, F5, l5⟩; have HR5 := hide R5; have HP5 := hide P5; have HS5 := hide S5; have HBF5 := hide (HBF.out.same F5); clear R5 P5 S5 F5)
        | (go_at_call_of 19 (Value.pointer (some ⟨tb, 0, none⟩)); refine (all_any _ tb rb cb2 Tb2 HBF5.out.B HLB.out).mono ?_; rintro e6 w6 ⟨ao6, cap6, L6, rfl, R6, P6, S6, F6, l6⟩; have hLL : L6 = L5 := (all_same HBF5.out.A.ky HBF5.out.B.ky (HBF5.out.done HALL.out) HP5.out P6 HS5.out S6).symm; subst hLL; have HR6 := hide R6; have HR56 := hide (HR5.out.fr F6); have HBF6 := hide (HBF5.out.same F6); clear R6 P6 S6 F6)
        | (go_at_call 18; refine (same_yes _ _ _ _ _ _ _ l5 HR56.out HR6.out).mono ?_; rintro e7 w7 ⟨rfl, F7⟩; have HBF7 := hide (HBF6.out.same F7); clear F7)
        | (go_at_call 21; refine (K9.out _).mono ?_; rintro e8 w8 ⟨rfl, F8⟩; have HF8 := hide (HBF7.out.fr.trans F8 (fun _ _ e => e)); clear F8))
              go_ret
              exact ⟨rfl, HF8.out.below (Nat.le_refl _) (fun _ _ e => e)⟩

end Go.Proofs.Ytcefeclgehijpaa
