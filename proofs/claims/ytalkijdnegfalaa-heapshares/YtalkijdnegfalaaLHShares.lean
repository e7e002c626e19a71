/-
  What is proved here: HeapShares answers true for every three numbers, and turns nothing that was there.
-/
import Derived.Test.YtalkijdnegfalaaHRing
import Derived.Test.YtalkijdnegfalaaHColl
namespace Go.Proofs.Ytalkijdnegfalaa
open Go Go.RowKit

/-- A row of its own beside a heap. -/
def Side (B : Nat) (w : World) (X : Nat → Prop) (v : Value) (k : Nat) (F : Nat → Nat) : Prop :=
  Own .u64 33 w 0 v k F ∧ ∀ g, v.ownBlock = some g → B ≤ g ∧ ¬ X g
theorem Side.next {B : Nat} {w w2 : World} {X X2 : Nat → Prop} {v : Value} {k : Nat} {F : Nat → Nat} (h : Side B w X v k F) (hF : Fr X w w2) (hG : Grows w.heap.size X X2) : Side B w2 X2 v k F :=
  ⟨h.1.fr hF fun g hg => (h.2 g hg).2, fun g hg => ⟨(h.2 g hg).1, fun e => by
    rcases hG g e with e | e
    · exact (h.2 g hg).2 e
    · have := h.1.block_lt hg; omega⟩⟩
theorem Side.keep {B : Nat} {w w2 : World} {X : Nat → Prop} {v : Value} {k : Nat} {F : Nat → Nat} (h : Side B w X v k F) (hF : Fr X w w2) : Side B w2 X v k F := h.next hF (Grows.refl _ _)

theorem wrap_nat (x : Int) (h0 : 0 ≤ x) (h : x ≤ 1048577) : IntKind.i64.wrap x = x ∧ IntKind.u64.wrap x = x := by
  simp only [IntKind.wrap, IntKind.bits, IntKind.signed]
  simp
  omega
theorem beq_nat {a b : Nat} (h : ¬ a = b) : ((a : Int) == (b : Int)) = false := by
  rw [beq_eq_false_iff_ne]
  omega

set_option maxRecDepth 20000 in
set_option maxHeartbeats 60000000 in
theorem heapShares_walk (x0 x1 x2 : Int) (w : World) (h01 : -9223372036854775808 ≤ x0) (h02 : x0 ≤ 9223372036854775807) (h11 : -9223372036854775808 ≤ x1) (h12 : x1 ≤ 9223372036854775807) (h21 : -9223372036854775808 ≤ x2) (h22 : x2 ≤ 9223372036854775807) :
    Calls Try.prog 10 #[.int .i64 x0, .int .i64 x1, .int .i64 x2] w fun e w' => e = .returned (.bool true) ∧ Below w.heap.size w w' := by
  obtain ⟨iW, hi, hz0, hz1, hz2⟩ := info_parts infoW
  have K0 := place_any x0 30 w (by decide) (by decide) h01 h02
  obtain ⟨N, hN1, hN2, hNI⟩ : ∃ N : Nat, 1 ≤ N ∧ N ≤ 30 ∧ 1 + (((x0 % ((30 : Nat) : Int)).toNat : Nat) : Int) = (N : Int) := ⟨1 + (x0 % 30).toNat, by omega, by omega, by simp⟩
  obtain ⟨q0, hq0⟩ : ∃ q : Nat, (x0 % ((30 : Nat) : Int)).toNat = q := ⟨_, rfl⟩
  rw [hq0] at K0 hNI
  clear hq0
  go_enter Try.func10, Try.ntmps10
  go_wp2_with (first
    | (go_at_call 22; refine K0.mono ?_; rintro e w1 ⟨rfl, hw⟩; replace hw := hw.symm; subst hw)
    | (go_at_call 23; refine (new_ok 300 _ (by decide) (by decide)).mono ?_; rintro e w1 ⟨rfl, X1, H1, L1, F1⟩))
  go_loopw [10, 11] (fun a10 a11 wr => ∃ (k n : Nat) (X : Nat → Prop) (f : Nat → Nat) (st : Nat → Bool), k ≤ N ∧ a11 = .int .i64 (k : Int) ∧ Side w.heap.size wr X a10 k (fun i => 4 * (5 + 7 * i)) ∧ HeapAt wr w.heap.size X 300 0 n f st ∧ Ring0 k n f st ∧ (∀ k, X k → w.heap.size ≤ k) ∧ Fr (fun k => w.heap.size ≤ k) w wr) (fun _ a11 _ => N - (intOf a11).toNat)
  case atStart => exact ⟨0, 1, X1, _, _, Nat.zero_le _, rfl, ⟨.inl ⟨rfl, rfl⟩, fun g e => by cases e⟩, H1, Ring0.zero, L1, F1.some⟩
  case round =>
    clear H1 L1 F1 X1
    obtain ⟨k, n, X, f, st, hk, rfl, hS, hH, hR, hL, hF⟩ := hrel
    have hlen := hR.len
    by_cases hlt : k < N
    · have KA := alloc_yes wr _ X 300 0 n f st 5 1 2 hH (by decide) (by decide) (by decide) (by decide) (by omega)
      obtain ⟨p, hpE⟩ : ∃ p, p = 4 * (5 + 7 * k) := ⟨_, rfl⟩
      obtain ⟨y, hyE, hyI⟩ : ∃ y : Nat, y = k + 100 ∧ (k : Int) + 100 = (y : Int) := ⟨_, rfl, by omega⟩
      have HP := hide hpE
      have HY := hide hyE
      have HS := hide hS
      have HR := hide hR
      have HL := hide hL
      have HF := hide hF
      have HLEN := hide hlen
      clear hpE hyE hS hR hL hF hlen hH
      go_wp2_with (first
        | (go_at_call 31; refine KS.mono ?_; rintro e w4 ⟨rfl, H4, F4⟩; have S4 := S3.keep F4; have hown := S4.1.row; obtain ⟨ao4, cap4, rfl⟩ := S4.1.shape; have HH4 := hide H4; have HF4 := hide (HF3.out.on (F4.from L3)); have HS4 := hide S4; clear H4 F4 S4 S3 KS)
        | (go_at_call 24; have KA2 := alloc_yes w2 _ X2 300 0 _ _ _ 1 1 1 H2 (by decide) (by decide) (by decide) (by decide) (by have := HLEN.out; omega); rw [show 4 * (n + 1 + 1 + 2) = p by have := HP.out; have := HLEN.out; omega] at KA2; refine KA2.mono ?_; rintro e w3 ⟨rfl, X3, H3, G3, F3⟩; clear KA2; have L3 := G3.ge L2 (Nat.le_trans HF.out.size F2.size); have HF3 := hide (HF2.out.on (F3.from L2)); have S3 := S2.next F3 G3; have hpp : p / 4 = n + 1 + 1 + 2 := (by have := HP.out; have := HLEN.out; omega); have KS := setRaw_yes w3 _ X3 300 0 _ _ _ p 0 y H3 (by have := HP.out; omega) (by have := HY.out; omega) (by unfold isPtr; rw [hpp, also_new]; have := HP.out; simp; omega) (by rw [hpp, laid_head]; decide); rw [hpp, laid_head] at KS; clear H2 hpp F2 F3 G2 G3 H3 HF2 S2 L2)
        | (go_at_call 24; refine KA.mono ?_; rintro e w2 ⟨rfl, X2, H2, G2, F2⟩; have L2 := G2.ge HL.out HF.out.size; have HF2 := hide (HF.out.on (F2.from HL.out)); have S2 := HS.out.next F2 G2; clear KA)
        | (at_builtin; refine wpList_append_lies _ rfl _ _ 28 rfl 0 33 iW (.int .u64 0) 1 8 Try.underlying28 hi hz0 hz1 hz2 rfl (by decide) _ k _ rfl (hown.alloc _) ⟨w4.heap.size, 0, none⟩ 1 1 [.int .u64 p] rfl rfl (hcells_one _ _ _) (fun u hu => by simp at hu; subst hu; rfl) (by decide) (by unfold maxLen; omega) (by omega) (by simp) (w4.heap.size + 1) (by simp) ?_; intro g5 cap5 w5 hown5 hgrow5 hat5 hlt5))
      have hTT : hTag (hOf 1 1 1) = 1 := rfl
      have F5 : Fr (fun j => (Value.slice ao4 k cap4).ownBlock = some j) w4 w5 := ((Fr.refl _ w4).alloc _).grow hgrow5 (fun k _ e => e)
      refine ⟨⟨k + 1, _, X3, _, _, by omega, by go_num, ⟨Own.snocF hown5 HP.out.symm, fun g hg => ?_⟩, HH4.out.fr F5 (fun j hj e => (HS4.out.2 j e).2 hj), HR.out.step (n2 := n + 1 + 1 + 2) (by omega) HY.out (by have := HLEN.out; omega) (by omega), L3, HF4.out.on (F5.from fun j e => (HS4.out.2 j e).1)⟩, ?_⟩
      · have e : g5 = g := by simpa [Value.ownBlock] using hg
        subst e
        have hs4 := HF4.out.size
        rcases hat5 with e | e
        · exact HS4.out.2 _ e
        · exact ⟨by omega, fun e2 => by have := HH4.out.lt e2; omega⟩
      · simp [intOf]
        omega
    · have hkN : N = k := by omega
      subst hkN
      obtain ⟨gp, capp, rfl, hcp1, hcp2, _⟩ := hS.1.rd (i := 0) (by omega)
      have hgp := hS.2 gp rfl
      have hrow : RowAt .u64 33 wr gp capp N (fun i => 4 * (5 + 7 * i)) := by
        rcases hS.1 with ⟨e, _⟩ | ⟨g', cap', e, _, _, h3⟩
        · cases e
        · cases e; exact h3
      have HS := hide hrow
      have HR := hide hR
      have HL := hide hL
      have HF := hide hF
      have HH := hide hH
      have HGP := hide hgp
      clear hS hR hL hF hH hlen hlt hrow hgp
      have hN0 : ((N : Int) != 0) = true := by rw [bne_iff_ne]; omega
      go_wp2
      go_loopw [14] (fun a14 wr => ∃ (k n : Nat) (f : Nat → Nat), k ≤ N ∧ a14 = .int .i64 (k : Int) ∧ RowAt .u64 33 wr gp capp N (fun i => 4 * (5 + 7 * i)) ∧ HeapAt wr w.heap.size X 300 0 n f st ∧ Ring1 N k n f st ∧ Fr (fun k => w.heap.size ≤ k) w wr) (fun a14 _ => N - (intOf a14).toNat)
      case atStart => exact ⟨0, n, f, Nat.zero_le _, rfl, HS.out, HH.out, ⟨HR.out, fun i hi => by omega⟩, HF.out⟩
      case round =>
        clear HS HR HF HH n f
        obtain ⟨k, n, f, hk, rfl, hS, hH, hR, hF⟩ := hrel
        by_cases hlt : k < N
        · obtain ⟨e, he, heE, heI⟩ : ∃ e : Nat, e < N ∧ e = (k + 1) % N ∧ ((k : Int) + 1) % (N : Int) = (e : Int) := ⟨(k + 1) % N, Nat.mod_lt _ (by omega), rfl, by simp⟩
          have heT : ((k : Int) + 1).tmod (N : Int) = (e : Int) := by rw [Int.tmod_eq_emod_of_nonneg (by omega)]; exact heI
          have hc1 := hS.cell hlt
          have hc2 := hS.cell he
          obtain ⟨p, hpE⟩ : ∃ p, p = 4 * (5 + 7 * k) := ⟨_, rfl⟩
          obtain ⟨y, hyE⟩ : ∃ y, y = 4 * (5 + 7 * e) := ⟨_, rfl⟩
          have hc1' : wr.cell? ⟨gp, k, none⟩ = some (.int .u64 (p : Int)) := by rw [hpE]; exact hc1
          have hc2' : wr.cell? ⟨gp, e, none⟩ = some (.int .u64 (y : Int)) := by rw [hyE]; exact hc2
          have hpp := ring_ptr hR.r0 hlt
          have hpy := ring_ptr hR.r0 he
          rw [← hpE] at hpp
          rw [← hyE] at hpy
          have hhd : f (p / 4) = hOf 1 1 1 := by rw [hpp.2]; exact (hR.r0.ob k hlt).2.1
          have KS := fun w1 (hf : Fr (fun _ => False) wr w1) => set_yes w1 _ X 300 0 n f st p 0 y (hH.fr hf (fun _ _ e => e)) (by omega) (by omega) hpp.1 (by rw [hhd]; decide) (by rw [may_0 (by omega)]; exact hpy.1)
          rw [hpp.2] at KS
          have HR := hide (hR.step (j := 5 + 7 * k + 1 + 0) (x := y) (by omega) (by rw [hyE, heE]))
          have HS := hide hS
          have HF := hide hF
          clear hc1 hc2 hpp hpy hhd hpE hyE heE hR hS hF hH
          go_wp2
          go_region_with (go_at_call 30; refine (KS _ ?_).mono ?_; exact (Fr.refl _ _).drew; rintro e w2 ⟨rfl, H2, F2⟩)
          all_goals
            have F2' : Fr X wr w2 := Fr.trans ((Fr.refl _ _).drew) F2 (fun _ _ e => e)
            have HH2 := hide H2
            have HF2 := hide F2'
            clear H2 F2 F2'
            go_wp2
            refine ⟨⟨k + 1, n, _, by omega, by go_num, HS.out.fr HF2.out HGP.out.2, HH2.out, HR.out, HF.out.on (HF2.out.from HL.out)⟩, ?_⟩
            simp [intOf]
            omega
        · have hkN : N = k := by omega
          subst hkN
          have K1 := place_any x1 N wr hN1 (by omega) h11 h12
          have K2 := place_any x2 N wr hN1 (by omega) h21 h22
          obtain ⟨x, hx, hxI⟩ : ∃ x : Nat, x < N ∧ (x1 % (N : Int)).toNat = x := by
            have a1 := Int.emod_nonneg x1 (b := (N : Int)) (by omega)
            have a2 := Int.emod_lt_of_pos x1 (b := (N : Int)) (by omega)
            exact ⟨_, by omega, rfl⟩
          obtain ⟨y, hy, hyI⟩ : ∃ y : Nat, y < N ∧ (x2 % (N : Int)).toNat = y := by
            have a1 := Int.emod_nonneg x2 (b := (N : Int)) (by omega)
            have a2 := Int.emod_lt_of_pos x2 (b := (N : Int)) (by omega)
            exact ⟨_, by omega, rfl⟩
          rw [hxI] at K1
          rw [hyI] at K2
          clear hxI hyI hlt hk
          obtain ⟨r, hr0, hr1, hr2⟩ : ∃ r : Nat → Nat, r 0 = 4 * (5 + 7 * x) ∧ r 1 = 9 ∧ r 2 = 4 * (5 + 7 * y) := ⟨fun k => if k = 0 then 4 * (5 + 7 * x) else if k = 1 then 9 else 4 * (5 + 7 * y), rfl, rfl, rfl⟩
          have hgd := hH.good
          obtain ⟨T1, T2, T3, T4, T5, T6⟩ := ring_coll hR hN1 hgd.1 hgd.2.1 (by omega) hx hy r hr0 hr1 hr2
          have hc1 := hS.cell hx
          have hc2 := hS.cell hy
          rw [← hr0] at hc1
          rw [← hr2] at hc2
          have hra : r 0 ≤ 4096 := by omega
          have hrb : r 2 ≤ 4096 := by omega
          have hcol := fun w1 (hf : Fr (fun _ => False) (wr.alloc (.cells #[.int .u64 (r 0 : Int), .int .u64 9, .int .u64 (r 2 : Int)] 33)) w1) => collect_any w1 w.heap.size X 300 0 n f st (some ⟨wr.heap.size, 0, none⟩) 3 3 r ((hH.alloc _).fr hf (fun _ _ e => e)) (by decide) (by decide) (.inr ⟨wr.heap.size, 0, rfl, Nat.lt_of_lt_of_le (by simp) hf.size, (fun e => by have := hH.lt e; omega), fun k hk => by
            rw [hf.cell (by simp) (fun e => e), cell_of_row _ _ _ _ _ _ (heap_alloc_new wr _)]
            rcases (show k = 0 ∨ k = 1 ∨ k = 2 by omega) with rfl | rfl | rfl
            · rfl
            · rw [hr1]; rfl
            · rfl⟩) (fun k hk => by rcases (show k = 0 ∨ k = 1 ∨ k = 2 by omega) with rfl | rfl | rfl <;> omega) (by decide) (by decide) (by decide)
          obtain ⟨mf, hmf⟩ : ∃ mf : Nat → Nat, mf = fun k => mvV f st (r k) (rootsS f st r k MS.zero) := ⟨_, rfl⟩
          have m0 : mf 0 = 4 * (collS n f st r 3).fw (5 + 7 * x) := by rw [hmf]; exact T4
          have m1 : mf 1 = 9 := by rw [hmf]; exact T5
          have m2 : mf 2 = 4 * (collS n f st r 3).fw (5 + 7 * y) := by rw [hmf]; exact T6
          rw [← hmf] at hcol
          clear hmf T4 T5 T6
          generalize collS n f st r 3 = T at *
          obtain ⟨g, hgE⟩ : ∃ g : Nat → Nat, g = fun i => 4 * T.fw (5 + 7 * i) := ⟨_, rfl⟩
          have P2 : ∀ i, i < N → isPtr T.st (g i) = true ∧ T.f (g i / 4) = hOf 1 1 1 ∧ T.f (g i / 4 + 1 + 0) = g ((i + 1) % N) ∧ T.f (g i / 4 + 1 + 1 + 0) = i + 100 ∧ g i < 4194304 := fun i hi => by
            obtain ⟨t1, t2, t3, t4, t5, t6⟩ := T2 i hi
            rw [hgE]
            exact ⟨t1, by rw [t2]; exact t3, by rw [t2]; exact t4, by rw [t2]; exact t5, by show 4 * T.fw (5 + 7 * i) < _; omega⟩
          have P3 : ∀ i j, i < N → j < N → (g i = g j ↔ i = j) := fun i j hi hj => by rw [hgE]; exact T3 i j hi hj
          have m0' : mf 0 = g x := by rw [hgE]; exact m0
          have m2' : mf 2 = g y := by rw [hgE]; exact m2
          have HP2 := hide P2
          have HP3 := hide P3
          have HM0 := hide m0'
          have HM1 := hide m1
          have HM2 := hide m2'
          have HF := hide hF
          have hTn : Hid (T.n = 1 + 3 * N) := hide T1
          clear T1 T2 T3 P2 P3 m0 m1 m2 m0' m2' hgE hR hS hF hH hgd hr0 hr1 hr2
          generalize r 0 = ra at *
          generalize r 2 = rb at *
          go_wp2_with (first
            | (go_at_call 22; refine K1.mono ?_; rintro e w1 ⟨rfl, hw⟩; replace hw := hw.symm; subst hw; clear K1)
            | (go_at_call 22; refine K2.mono ?_; rintro e w1 ⟨rfl, hw⟩; replace hw := hw.symm; subst hw; clear K2))
          go_region_with (go_at_call 18; refine (hcol _ ?_).mono ?_; exact ⟨rfl, rfl, rfl, Nat.le_refl _, fun _ _ _ => rfl⟩; rintro e w3 ⟨gm, X3, rfl, hge, R3, ng, H3, G3, F3⟩)
          all_goals
            have hcA : w3.cell? ⟨gm, 0, none⟩ = some (.int .u64 (g x : Int)) := by rw [← HM0.out]; exact R3.cell (by decide)
            have hcB : w3.cell? ⟨gm, 1, none⟩ = some (.int .u64 9) := by have := R3.cell (i := 1) (by decide); rw [HM1.out] at this; exact this
            have hcC : w3.cell? ⟨gm, 2, none⟩ = some (.int .u64 (g y : Int)) := by rw [← HM2.out]; exact R3.cell (by decide)
            have L3 := hide (G3.ge HL.out (Nat.le_trans HF.out.size (by simp)))
            have HF3 := hide ((HF.out.drew.alloc _).on (F3.from HL.out))
            have HH3 := hide H3
            have HNG := hide ng
            have hgeB : w.heap.size ≤ gm := Nat.le_trans HF.out.size (Nat.le_trans (by simp) hge)
            have KU := fun q => used_any (w3.drewN q) _ X3 300 _ _ _ _ (H3.drewN q)
            rw [hTn.out] at KU
            clear R3 H3 G3 F3 ng hcol hge
            have hTagO : hTag (hOf 1 1 1) = 1 := rfl
            have hw3 := (wrap_nat (3 * (N : Int)) (by omega) (by omega)).1
            have hw4 := (wrap_nat (1 + 3 * (N : Int)) (by omega) (by omega)).1
            by_cases hxy : x = y
            · subst hxy
              go_wp2
              go_quiet ((go_at_call 28; exact Calls.quiet_of (KU _)))
              go_wp2
              go_loopw [18, 19] (fun a18 a19 wr => ∃ (j : Nat), j ≤ N ∧ a19 = .int .i64 (j : Int) ∧ a18 = .int .u64 (g ((x + j) % N) : Int) ∧ HeapAt wr w.heap.size X3 300 (0 + 1) T.n T.f T.st ∧ wr.cell? ⟨gm, 0, none⟩ = w3.cell? ⟨gm, 0, none⟩ ∧ wr.cell? ⟨gm, 2, none⟩ = w3.cell? ⟨gm, 2, none⟩ ∧ Fr (fun k => w.heap.size ≤ k) w wr) (fun _ a19 _ => N - (intOf a19).toNat)
              case atStart => exact ⟨0, Nat.zero_le _, rfl, by rw [Nat.add_zero, Nat.mod_eq_of_lt hx], HH3.out.drewN _, rfl, rfl, HF3.out.drewN _⟩
              case round =>
                obtain ⟨j, hj, rfl, rfl, hH, hA, hC, hF9⟩ := hrel
                rw [hcA] at hA
                rw [hcC] at hC
                by_cases hlt : j < N
                · obtain ⟨e, he, heE, heI⟩ : ∃ e : Nat, e < N ∧ e = (x + j) % N ∧ ((x : Int) + (j : Int)) % (N : Int) = (e : Int) := ⟨(x + j) % N, Nat.mod_lt _ (by omega), rfl, by simp⟩
                  have heT : ((x : Int) + (j : Int)).tmod (N : Int) = (e : Int) := by rw [Int.tmod_eq_emod_of_nonneg (by omega)]; exact heI
                  obtain ⟨p1, p2, p3, p4, p5⟩ := HP2.out e he
                  have KR := rawh_in wr _ X3 300 _ T.n T.f T.st (g e) 0 hH (by omega) p1 (by rw [p2]; decide)
                  rw [p2, hTagO, p4] at KR
                  have KG := fun q => geth_in (wr.drewN q) _ X3 300 _ T.n T.f T.st (g e) 0 (hH.drewN q) (by omega) p1 (by rw [p2]; decide)
                  rw [p3] at KG
                  have HN : Hid (g ((e + 1) % N) = g ((x + (j + 1)) % N)) := hide (by rw [heE, Nat.mod_add_mod, Nat.add_assoc])
                  have HH9 := hide hH
                  have HF9 := hide hF9
                  have HA9 := hide hA
                  have HC9 := hide hC
                  have hv1 := (wrap_nat ((x : Int) + (j : Int)) (by omega) (by omega)).1
                  have hv2 := wrap_nat ((e : Int) + 100) (by omega) (by omega)
                  have hv3 := hv2.1
                  have hv4 := hv2.2
                  rw [← heE]
                  clear hv2 p1 p2 p3 p4 p5 hH hF9 heE
                  by_cases hey : e = x
                  all_goals
                    first
                      | (have hgn2 : ¬ g e = g x := fun h => hey ((HP3.out e x he hx).1 h); have hgb2 := beq_nat hgn2; have heb2 := beq_nat hey)
                      | (subst hey)
                    go_wp2_with (go_at_call 33; refine KR.mono ?_; rintro e9 w9 ⟨rfl, q9, rfl⟩)
                    go_quiet (fail)
                    go_wp2_with (go_at_call 32; refine (KG _).mono ?_; rintro e8 w8 ⟨rfl, q8, rfl⟩)
                    refine ⟨⟨j + 1, by omega, by go_num, ?_, HH9.out.drewN _, ?_, ?_, HF9.out.drewN _⟩, ?_⟩
                    · rw [← HN.out]
                    · rw [hcA]; exact HA9.out
                    · rw [hcC]; exact HC9.out
                    · simp [intOf]
                      omega
                · have hjN : N = j := by omega
                  subst hjN
                  rw [Nat.add_mod_right, Nat.mod_eq_of_lt hx]
                  go_wp2_with (go_at_call 12; refine (awake_any _).mono ?_; rintro e w11 ⟨rfl, F11⟩)
                  go_ret
                  exact ⟨rfl, ((hF9.on F11.some)).none.below (Nat.le_refl _) (fun _ _ e => e)⟩
            · have hgn : ¬ g x = g y := fun e => hxy ((HP3.out x y hx hy).1 e)
              have hgb := beq_nat hgn
              have hxb := beq_nat hxy
              go_wp2
              go_quiet ((go_at_call 28; exact Calls.quiet_of (KU _)))
              go_wp2
              go_loopw [18, 19] (fun a18 a19 wr => ∃ (j : Nat), j ≤ N ∧ a19 = .int .i64 (j : Int) ∧ a18 = .int .u64 (g ((x + j) % N) : Int) ∧ HeapAt wr w.heap.size X3 300 (0 + 1) T.n T.f T.st ∧ wr.cell? ⟨gm, 0, none⟩ = w3.cell? ⟨gm, 0, none⟩ ∧ wr.cell? ⟨gm, 2, none⟩ = w3.cell? ⟨gm, 2, none⟩ ∧ Fr (fun k => w.heap.size ≤ k) w wr) (fun _ a19 _ => N - (intOf a19).toNat)
              case atStart => exact ⟨0, Nat.zero_le _, rfl, by rw [Nat.add_zero, Nat.mod_eq_of_lt hx], HH3.out.drewN _, rfl, rfl, HF3.out.drewN _⟩
              case round =>
                obtain ⟨j, hj, rfl, rfl, hH, hA, hC, hF9⟩ := hrel
                rw [hcA] at hA
                rw [hcC] at hC
                by_cases hlt : j < N
                · obtain ⟨e, he, heE, heI⟩ : ∃ e : Nat, e < N ∧ e = (x + j) % N ∧ ((x : Int) + (j : Int)) % (N : Int) = (e : Int) := ⟨(x + j) % N, Nat.mod_lt _ (by omega), rfl, by simp⟩
                  have heT : ((x : Int) + (j : Int)).tmod (N : Int) = (e : Int) := by rw [Int.tmod_eq_emod_of_nonneg (by omega)]; exact heI
                  obtain ⟨p1, p2, p3, p4, p5⟩ := HP2.out e he
                  have KR := rawh_in wr _ X3 300 _ T.n T.f T.st (g e) 0 hH (by omega) p1 (by rw [p2]; decide)
                  rw [p2, hTagO, p4] at KR
                  have KG := fun q => geth_in (wr.drewN q) _ X3 300 _ T.n T.f T.st (g e) 0 (hH.drewN q) (by omega) p1 (by rw [p2]; decide)
                  rw [p3] at KG
                  have HN : Hid (g ((e + 1) % N) = g ((x + (j + 1)) % N)) := hide (by rw [heE, Nat.mod_add_mod, Nat.add_assoc])
                  have HH9 := hide hH
                  have HF9 := hide hF9
                  have HA9 := hide hA
                  have HC9 := hide hC
                  have hv1 := (wrap_nat ((x : Int) + (j : Int)) (by omega) (by omega)).1
                  have hv2 := wrap_nat ((e : Int) + 100) (by omega) (by omega)
                  have hv3 := hv2.1
                  have hv4 := hv2.2
                  rw [← heE]
                  clear hv2 p1 p2 p3 p4 p5 hH hF9 heE
                  by_cases hey : e = y
                  all_goals
                    first
                      | (have hgn2 : ¬ g e = g y := fun h => hey ((HP3.out e y he hy).1 h); have hgb2 := beq_nat hgn2; have heb2 := beq_nat hey)
                      | (subst hey)
                    go_wp2_with (go_at_call 33; refine KR.mono ?_; rintro e9 w9 ⟨rfl, q9, rfl⟩)
                    go_quiet (fail)
                    go_wp2_with (go_at_call 32; refine (KG _).mono ?_; rintro e8 w8 ⟨rfl, q8, rfl⟩)
                    refine ⟨⟨j + 1, by omega, by go_num, ?_, HH9.out.drewN _, ?_, ?_, HF9.out.drewN _⟩, ?_⟩
                    · rw [← HN.out]
                    · rw [hcA]; exact HA9.out
                    · rw [hcC]; exact HC9.out
                    · simp [intOf]
                      omega
                · have hjN : N = j := by omega
                  subst hjN
                  rw [Nat.add_mod_right, Nat.mod_eq_of_lt hx]
                  go_wp2_with (go_at_call 12; refine (awake_any _).mono ?_; rintro e w11 ⟨rfl, F11⟩)
                  go_ret
                  exact ⟨rfl, ((hF9.on F11.some)).none.below (Nat.le_refl _) (fun _ _ e => e)⟩

end Go.Proofs.Ytalkijdnegfalaa
