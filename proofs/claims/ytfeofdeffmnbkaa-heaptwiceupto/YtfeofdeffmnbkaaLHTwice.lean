/-
  What is proved here: HeapTwice answers true for every number, every script and every list of numbers, and turns nothing that was there.
-/
import Derived.Test.YtfeofdeffmnbkaaHGrown2
import Derived.Deep.RegionHeld3
namespace Go.Proofs.Ytfeofdeffmnbkaa
open Go Go.RowKit

/-- The roots of a collection, beside a heap. -/
theorem Own.hr {E : TypeId} {w : World} {base : Nat} {ao : Option Addr} {l cap : Nat} {r : Nat → Nat} {X : Nat → Prop} (h : Own .u64 E w base (.slice ao l cap) l r) (hX : ∀ g, X g → g < base) :
    (l = 0 ∨ ∃ b off, ao = some ⟨b, off, none⟩ ∧ b < w.heap.size ∧ ¬ X b ∧ ∀ k, k < l → w.cell? ⟨b, off + k, none⟩ = some (.int .u64 (r k))) ∧ l ≤ cap ∧ cap ≤ 9223372036854775807 := by
  rcases h with ⟨e, e2⟩ | ⟨g, cap', e, h1, h2, h3⟩
  · cases e
    exact ⟨.inl rfl, by omega, by omega⟩
  · cases e
    exact ⟨.inr ⟨g, 0, rfl, h3.lt, fun e => by have := hX g e; omega, fun k hk => by rw [Nat.zero_add]; exact h3.cell hk⟩, h3.le, h2⟩

set_option maxRecDepth 20000 in
set_option maxHeartbeats 20000000 in
theorem heapTwice_walk (x0 : Int) (ao : Option Addr) (N cap L : Nat) (v : Value) (lr : Nat) (g : Nat → Int) (w : World) (hs : OpsIn w ao N L) (hN : N ≤ 1048576) (hL : L ≤ 1048576) (hc : N ≤ cap) (hR : SlI .i64 w v lr g) (hg : ∀ i, i < lr → -9223372036854775808 ≤ g i ∧ g i ≤ 9223372036854775807) (hlr : lr ≤ 1048576) (h01 : -9223372036854775808 ≤ x0) (h02 : x0 ≤ 9223372036854775807) :
    Calls Try.prog 5 #[.int .i64 x0, .slice ao N cap, v] w fun e w' => e = .returned (.bool true) ∧ Below w.heap.size w w' := by
  obtain ⟨iW, hiW, hz0, hz1, hz2⟩ := info_parts infoW
  have KG := grown_fine x0 ao N cap L w hs hN hL ⟨h01, h02⟩ hc
  obtain ⟨aoR, capR, rfl, hRc, hRc2, hRr⟩ := hR
  have HG := hide KG
  have HRr := hide hRr
  have Hg := hide hg
  clear KG hs h01 h02 hRr hg
  go_enter Try.func5, Try.ntmps5
  go_wp2_with (go_at_call 15; refine HG.out.mono ?_; rintro e w1 ⟨ob, hb, rb, sz, tm, n, f, st, m, o, rfl, hO, hF, ht1, ht2, hm, hs1, hs2, hkp⟩; obtain ⟨X, Y, vO, h, bX, bY, bo, bO⟩ := hO; have HN := hide h; have HF := hide hF; have HK := hide hkp; clear h hF hkp HG bY bo bO)
  have hgd := HN.out.H.good
  have hnn : n ≤ 1048576 := Nat.le_trans hgd.2.2.1 hgd.2.2.2
  obtain ⟨r, hr1, -, hr3⟩ := roots_of HN.out.ol g lr 0 (by decide)
  have hrp : Hid (∀ k, k < lr → isPtr st (r k) = true ∨ r k = 0) := hide fun k hk => by
    rw [← hr1 k hk]
    unfold pk
    by_cases c : m = 0
    · exact .inr (by rw [if_pos c])
    · rw [if_neg c]
      have a1 := Int.emod_nonneg (g k) (b := (m : Int)) (by omega)
      have a2 := Int.emod_lt_of_pos (g k) (b := (m : Int)) (by omega)
      exact .inl (HK.out.ptr _ (by omega))
  have Hr1 := hide hr1
  have Hr3 : Hid (∀ k, k < lr → r k < 18446744073709551616) := hide fun k hk => hr3 k (by omega)
  have HXl : Hid (∀ k, X k → k < w1.heap.size) := hide fun k hk => HN.out.H.lt hk
  clear hgd hr1 hr3
  go_loopw [8, 9] (fun a8 a9 wr => ∃ j : Nat, j ≤ lr ∧ a9 = .int .i64 (j : Int) ∧ Own .u64 33 wr w1.heap.size a8 j r ∧ Fr (fun _ => False) w1 wr) (fun _ a9 _ => lr - (intOf a9).toNat)
  case atStart => exact ⟨0, Nat.zero_le _, rfl, .inl ⟨rfl, rfl⟩, Fr.refl _ _⟩
  case round =>
    obtain ⟨j, hj, rfl, hS, hFr⟩ := hrel
    have HFr := hide hFr
    have hszr : Hid (w1.heap.size ≤ wr.heap.size) := hide hFr.size
    by_cases hlt : j < lr
    · obtain ⟨bR, offR, rfl, hRr⟩ : ∃ b off, aoR = some ⟨b, off, none⟩ ∧ ∀ i, i < lr → w.cell? ⟨b, off + i, none⟩ = some (.int .i64 (g i)) := by
        rcases HRr.out with e | e
        · omega
        · exact e
      have hbl := World.block_lt_of_cell? _ _ (hRr j hlt)
      have cR := ((Fr.trans HF.out hFr (fun _ _ e => e.elim)).cell (o := offR + j) hbl (Nat.not_le.2 hbl)).trans (hRr j hlt)
      have hpk := Hr1.out j hlt
      have hgj := Hg.out j hlt
      generalize g j = gj at *
      obtain ⟨p, hp⟩ : ∃ p, p = r j := ⟨_, rfl⟩
      rw [← hp] at hpk
      have HP := hide hp
      have HPK := hide hpk
      have HS := hide hS
      obtain ⟨aoS, capS, rfl⟩ := hS.shape
      have hgj1 := hgj.1
      have hgj2 := hgj.2
      clear hRr hp hpk hS hFr HRr hgj hbl
      go_wp2_with (first
        | (go_at_call 16; refine (pick_at _ ob hb X rb Y vO sz tm n f st m o gj p HPK.out (HN.out.fr HFr.out (fun _ _ e => e)) hgj1 hgj2).mono ?_; rintro e w2 ⟨rfl, hq2⟩; have F2 := drewFr hq2; have HF2 := hide F2; have hown := (HS.out.fr F2 (fun _ _ e => e)).row; clear F2 hq2)
        | (at_builtin; refine wpList_append_lies _ rfl _ _ 28 rfl w1.heap.size 33 iW (.int .u64 0) 1 8 Try.underlying28 hiW hz0 hz1 hz2 rfl (by decide) _ j _ rfl (hown.alloc _) ⟨w2.heap.size, 0, none⟩ 1 1 [.int .u64 p] rfl rfl (hcells_one _ _ _) (fun u hu => by simp at hu; subst hu; rfl) (by decide) (by unfold maxLen; omega) (by omega) (by have := hszr.out; have := HF2.out.size; simp; omega) (w2.heap.size + 1) (by simp) ?_; intro g5 cap5 w5 hown5 hgrow5 hat5 hlt5))
      have F5 : Fr (fun i => (Value.slice aoS j capS).ownBlock = some i) w2 w5 := ((Fr.refl _ w2).alloc _).grow hgrow5 (fun k _ e => e)
      refine ⟨⟨j + 1, by omega, by go_num, Own.snocF hown5 HP.out.symm, Fr.trans (Fr.trans HFr.out HF2.out (fun _ _ e => e)) F5 (fun k hk e => by have := HS.out.ge e; omega)⟩, ?_⟩
      simp [intOf]
      omega
    · have hjl : lr = j := by omega
      subst hjl
      obtain ⟨aoS, capS, rfl⟩ := hS.shape
      obtain ⟨hr, hcap, hcap2⟩ := hS.hr HXl.out
      have KC := collect_any wr hb X sz tm n f st aoS lr capS r (HN.out.H.fr hFr (fun _ _ e => e)) ht1 (by omega) hr Hr3.out (by omega) hcap hcap2
      have hgd := HN.out.H.good
      have hC : ∃ T a, T = collS n f st r lr ∧ a = (fun k => mvV f st (r k) (rootsS f st r k MS.zero)) := ⟨_, _, rfl, rfl⟩
      obtain ⟨T, a, hT, ha⟩ := hC
      have htw := coll_twice hgd.1 hgd.2.1 hnn HK.out.fine r a lr hrp.out T hT (fun k _ => by rw [ha])
      have hal : Hid (∀ k, k < lr → a k < 18446744073709551616) := hide fun k hk => by
        rw [ha]
        exact mvV_lt (MSok.roots hgd.1 hgd.2.1 r k) hgd.1 hgd.2.1 hnn (Hr3.out k hk)
      rw [← hT, ← ha] at KC
      have HT := hide htw
      have HKC := hide KC
      have c0 := (hFr.cell (o := 0) HN.out.lt (fun e => e)).trans HN.out.cells.1
      have hoX := hide HN.out.oX
      have hol : Hid (ob < wr.heap.size) := hide (Nat.lt_of_lt_of_le HN.out.lt hFr.size)
      have HFw := hide (HF.out.on hFr.some)
      clear KC htw hT ha hr hcap hcap2 hS hFr hlt hj hgd
      go_wp2_with (first
        | (go_at_call 18; refine HKC.out.mono ?_; rintro e w2 ⟨gm, X2, rfl, hgm, R2, nX2, H2, G2, F2⟩; have d0 := (F2.cell (o := 0) hol.out hoX.out).trans c0; have hoX2 : Hid (¬ X2 ob) := hide (fun e => by rcases G2 ob e with e | e; exact hoX.out e; exact absurd e (Nat.not_le.2 hol.out)); have hol2 : Hid (ob < w2.heap.size) := hide (Nat.lt_of_lt_of_le hol.out F2.size); have HH2 := hide H2; have hX2 := hide (G2.ge bX HFw.out.size); have HR2 := hide R2; have nX := hide nX2; have HF2 := hide (HFw.out.on (F2.from bX)); clear hgm R2 nX2 H2 G2 F2 c0)
        | (go_at_call 17; refine (words_any w2 hb X2 sz _ _ _ _ HH2.out).mono ?_; rintro e w3 ⟨v3, rfl, Q3, F3⟩; have e0 := (F3.cell (o := 0) hol2.out (fun e => e)).trans d0; have hol3 : Hid (ob < w3.heap.size) := hide (Nat.lt_of_lt_of_le hol2.out F3.size); have HH3 := hide (HH2.out.fr F3 (fun _ _ e => e)); have HR3 := hide (HR2.out.fr F3 (fun e => e)); have HF3 := hide (HF2.out.on F3.some); have hv3 : Hid (∀ gg, v3.ownBlock = some gg → ¬ X2 gg) := hide (fun gg hgg e => by have := Q3.ge hgg; have := HH2.out.lt e; omega); have HQ3 := hide Q3; clear Q3 F3 d0)
        | (go_at_call 19; refine (times_any w3 hb X2 sz _ _ _ _ HH3.out).mono ?_; rintro e w4 ⟨rfl, hw⟩; replace hw := hw.symm; subst hw))
      obtain ⟨aoV, capV, rfl⟩ := HQ3.out.shape
      have hTn : T.n ≤ 1048576 := Nat.le_trans HH3.out.good.2.2.1 HH3.out.good.2.2.2
      have KW := copyW_any gm 0 lr lr a w3.drew (fun i hi => by rw [Nat.zero_add]; exact (HR3.out.fr (S := fun _ => False) ((Fr.refl _ w3).drew) (fun e => e)).cell hi) (by omega)
      have HKW := hide KW
      clear KW
      go_region_held3 (fun w' => w'.cell? ⟨ob, 0, none⟩ = some (.pointer (some ⟨hb, 0, none⟩))) (go_keep)
        (first
          | (go_at_call 20; refine HKW.out.mono ?_; rintro e w4 ⟨v4, rfl, Q4, F4⟩; have F4' := Fr.trans ((Fr.refl (fun _ => False) w3).drew) F4 (fun _ _ e => e); have f0 := (F4'.cell (o := 0) hol3.out (fun e => e)).trans e0; have hol4 : Hid (ob < w4.heap.size) := hide (Nat.lt_of_lt_of_le hol3.out F4'.size); obtain ⟨ao4, cap4, rfl⟩ := Q4.shape; have hr4 := hide (Q4.hr (X := X2) (fun k hk => HH3.out.lt hk)); have HH4 := hide (HH3.out.fr F4' (fun _ _ e => e)); have HR4 := hide (HR3.out.fr F4' (fun e => e)); have HQ34 := hide (HQ3.out.fr F4' (fun _ _ e => e)); have HF4 := hide (HF3.out.on F4'.some); clear Q4 F4 F4')
          | (go_at_call 18; refine (collect_any w4 hb X2 sz (tm + 1) T.n T.f T.st ao4 lr cap4 a HH4.out (by omega) (by omega) hr4.out.1 hal.out (by omega) hr4.out.2.1 hr4.out.2.2).mono ?_; rintro e w5 ⟨gm5, X5, rfl, hgm5, R5, nX5, H5, G5, F5⟩; have i0 := (F5.cell (o := 0) hol4.out hoX2.out).trans f0; have HH5 := hide H5; have HR5 := hide R5; have HA5 := hide (HR4.out.fr F5 nX.out); have HV5 := hide (HQ34.out.fr F5 hv3.out); have HF5 := hide (HF4.out.on (F5.from hX2.out)); have hol5 : Hid (ob < w5.heap.size) := hide (Nat.lt_of_lt_of_le hol4.out F5.size); clear hgm5 R5 nX5 H5 G5 F5))
      have HRb : Hid (RowAt .u64 33 w5 gm5 lr lr a) := hide (HR5.out.congr (fun k hk => HT.out.2.2 k hk))
      have hTT : ((collS T.n T.f T.st a lr).n) = T.n := HT.out.1
      have KWd := fun w1 h1 => words_any w1 hb X5 sz (tm + 1 + 1) (collS T.n T.f T.st a lr).n (collS T.n T.f T.st a lr).f (collS T.n T.f T.st a lr).st h1
      rw [hTT] at KWd
      have HH5' : Hid (HeapAt w5 hb X5 sz (tm + 1 + 1) T.n (collS T.n T.f T.st a lr).f (collS T.n T.f T.st a lr).st) := by have := HH5.out; rw [hTT] at this; exact hide this
      have HKWd := hide KWd
      have hwt : IntKind.i64.wrap (tm + 1 + 1) = tm + 1 + 1 := by simp only [IntKind.wrap, IntKind.bits, IntKind.signed]; simp; omega
      have hee : ((tm + 1 + 1) == (tm + 1 + 1)) = true := by simp
      clear KWd hTT HH5 HKC HKW e0 HR5
      go_wp2_with (first
        | (go_at_call_of 21 (Value.slice (some ⟨gm, 0, none⟩) lr lr); refine (sameW_any (some ⟨gm, 0, none⟩) (some ⟨gm5, 0, none⟩) lr lr lr a _ HA5.out.rd HRb.out.rd (by omega)).mono ?_; rintro e w6 ⟨rfl, F6⟩; have i1 := (F6.cell (o := 0) hol5.out (fun e => e)).trans i0; have HH6 := hide (HH5'.out.fr F6 (fun _ _ e => e)); have HV6 := hide (HV5.out.fr F6 (fun _ _ e => e)); have HF6 := hide (HF5.out.on F6.some); have hol6 : Hid (ob < w6.heap.size) := hide (Nat.lt_of_lt_of_le hol5.out F6.size); clear F6 i0)
        | (go_at_call 17; refine (HKWd.out _ HH6.out).mono ?_; rintro e w7 ⟨v7, rfl, Q7, F7⟩; have i2 := (F7.cell (o := 0) hol6.out (fun e => e)).trans i1; have HH7 := hide (HH6.out.fr F7 (fun _ _ e => e)); have HV7 := hide (HV6.out.fr F7 (fun _ _ e => e)); have HF7 := hide (HF6.out.on F7.some); have hol7 : Hid (ob < w7.heap.size) := hide (Nat.lt_of_lt_of_le hol6.out F7.size); obtain ⟨ao7, cap7, rfl⟩ := Q7.shape; have HQ7 := hide (Q7.congr (fun i hi => HT.out.2.1 i hi)); clear Q7 F7 i1)
        | (go_at_call 21; refine (sameW_any aoV ao7 T.n capV cap7 T.f _ HV7.out.rdl HQ7.out.rdl (by omega)).mono ?_; rintro e w8 ⟨rfl, F8⟩; have i3 := (F8.cell (o := 0) hol7.out (fun e => e)).trans i2; have HH8 := hide (HH7.out.fr F8 (fun _ _ e => e)); have HF8 := hide (HF7.out.on F8.some); clear F8 i2)
        | (go_at_call 19; refine (times_any _ hb X5 sz _ _ _ _ HH8.out).mono ?_; rintro e w9 ⟨rfl, hw⟩; replace hw := hw.symm; subst hw)
        | (go_at_call 12; refine (awake_any _).mono ?_; rintro e w10 ⟨rfl, F10⟩))
      go_ret
      exact ⟨rfl, (HF8.out.on F10.some).below (Nat.le_refl _) (fun k hk e => by omega)⟩

end Go.Proofs.Ytfeofdeffmnbkaa
