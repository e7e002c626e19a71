/-
  What is proved here: the document's own heap: Collect.
-/
import Derived.Test.YtfeofdeffmnbkaaHRColl0
import Derived.Deep.RegionHeld3
namespace Go.Proofs.Ytfeofdeffmnbkaa
open Go Go.RowKit

/-- make([]int, n): a block of its own, all noughts. -/
theorem wpList_mkN {w : World} {ops : Array Oper} {rest : List Oper} {o : Oper} {a : Act} {Q : Exit → Act → World → Prop}
    (hg : o.guard = none) (l c : Operand) (hop : o.op = Op.makeSlice 34 l c)
    (kl kc : IntKind) (L C : Int) (n : Nat) (hl : a.eval l = .int kl L) (hc : a.eval c = .int kc C) (hL : L = (n : Int)) (hC : C = (n : Int)) (b2 : 8 * n ≤ 281474976710656)
    (hK : ∀ w', RowAt .i64 3 w' w.heap.size n n (fun _ => 0) → Fr (fun _ => False) w w' → w.heap.size < w'.heap.size → wpList Try.prog ops Q rest (a.put o.dst (.slice (some ⟨w.heap.size, 0, none⟩) n n)) w') :
    wpList Try.prog ops Q (o :: rest) a w := by
  obtain ⟨i, hi, hz0, hz1, hz2⟩ := info_parts infoN
  refine wpList_make_full w hg l c 34 hop w.heap.size 3 i (.int .i64 0) 1 Try.underlying34 hi hz0 hz1 kl kc L C n hl hc hL hC (by rw [hz2]; exact b2) (by unfold maxLen; omega) (Nat.le_refl _) ?_
  intro w' hown hgrow
  have ho : Own .i64 3 w' w.heap.size (.slice (some ⟨w.heap.size, 0, none⟩) n n) n (fun _ => 0) :=
    Own.of_row hown (fun j hj => by
      rw [show (Value.int .i64 0).cells = #[Value.int .i64 0] from rfl, toList_madeCells_one]
      simp [hj])
  have hR : RowAt .i64 3 w' w.heap.size n n (fun _ => 0) := by
    rcases ho with ⟨h, _⟩ | ⟨g, cap, h, _, _, hr⟩
    · cases h
    · cases h
      exact hr
  exact hK w' hR ((Fr.refl _ w).grow hgrow (fun k _ e => by cases e)) hR.lt

theorem coll_begin {w w2 : World} {rb : Nat} {Y : Nat → Prop} {sz : Nat} {tm : Int} {n : Nat} {f : Nat → Nat} {st : Nat → Bool} {vW vH : Value} {hn : Nat} {hd : Nat → Nat} (h : RefIn w rb Y sz tm n f st vW vH hn hd) (R2 : RowAt .i64 3 w2 w.heap.size hn hn (fun _ => 0)) (F2 : Fr (fun _ => False) w w2) :
    Coll ((w2.alloc (.cells #[.int .u64 0] 33)).alloc (.cells #[.int .i64 (sz : Int), .slice (some ⟨w2.heap.size, 0, none⟩) 1 1, .slice none 0 0, .int .i64 (tm + 1)] 67)).drew rb Y sz tm n f st hn hd (w2.heap.size + 1) (fun k => k = w2.heap.size + 1 ∨ k = w2.heap.size) (tm + 1) MS.zero 0 (fun _ => 0) w.heap.size ∧ Fr (fun _ => False) w ((w2.alloc (.cells #[.int .u64 0] 33)).alloc (.cells #[.int .i64 (sz : Int), .slice (some ⟨w2.heap.size, 0, none⟩) 1 1, .slice none 0 0, .int .i64 (tm + 1)] 67)).drew := by
  have F3 : Fr (fun _ => False) w2 ((w2.alloc (.cells #[.int .u64 0] 33)).alloc (.cells #[.int .i64 (sz : Int), .slice (some ⟨w2.heap.size, 0, none⟩) 1 1, .slice none 0 0, .int .i64 (tm + 1)] 67)).drew := (((Fr.refl _ _).alloc _).alloc _).drew
  have F4 := Fr.trans F2 F3 (fun _ _ e => e)
  have hYl : ∀ k, Y k → k < w.heap.size := fun k hk => RefAt.lt ⟨_, _, _, _, h⟩ hk
  have hlt := R2.lt
  have hnl := h.nz
  have hgp := h.good.pos
  refine ⟨⟨⟨vW, vH, h.fr F4 (fun _ _ e => e)⟩, ⟨.slice (some ⟨w2.heap.size, 0, none⟩) 1 1, .slice none 0 0, ?_, .inr ⟨w2.heap.size, 1, rfl, Nat.zero_le _, by decide, #[.int .u64 0], ?_, rfl, Nat.le_refl _, fun i hi => ?_⟩, .inl ⟨rfl, rfl⟩, fun e => ?_, (fun e => by cases e), (fun g _ e => by cases e), (fun i j _ hj => by omega), (fun p => ⟨(fun e => by cases e), fun ⟨k, hk, _⟩ => by omega⟩), Good.one, (fun i _ => by show (0 : Nat) < _; decide), (by omega), (by show 1 ≤ sz; omega), h.z, fun k => ⟨fun e => ?_, fun e => ?_⟩⟩, MSok.zero _ _ _, R2.fr F3 (fun e => e), fun k hk e => ?_, fun e => ?_, fun e => ?_⟩, F4⟩
  · have := heap_alloc_new (w2.alloc (.cells #[.int .u64 0] 33)) (.cells #[.int .i64 (sz : Int), .slice (some ⟨w2.heap.size, 0, none⟩) 1 1, .slice none 0 0, .int .i64 (tm + 1)] 67)
    rw [show (w2.alloc (.cells #[.int .u64 0] 33)).heap.size = w2.heap.size + 1 by simp] at this
    exact this
  · show ((w2.alloc _).alloc _).heap[w2.heap.size]? = _
    rw [heap_alloc_old _ _ (r := w2.heap.size) (by simp)]
    exact heap_alloc_new w2 _
  · have hi1 : i < 1 := hi
    obtain rfl : i = 0 := by omega
    rfl
  · simp [Value.ownBlock] at e
  · rcases e with e | e
    · exact .inl e
    · exact .inr (.inl (by rw [e]; rfl))
  · rcases e with e | e | e
    · exact .inl e
    · exact .inr (by simpa [Value.ownBlock] using e.symm)
    · cases e
  · have := hYl k hk
    have := F2.size
    omega
  · have := hYl _ e; omega
  · omega

theorem Own.base {k : IntKind} {E : TypeId} {w : World} {base : Nat} {v : Value} {n : Nat} {f : Nat → Nat} (h : Own k E w base v n f) {g : Nat} (hg : v.ownBlock = some g) : base ≤ g := by
  rcases h with ⟨rfl, _⟩ | ⟨g', cap, rfl, hb, _⟩
  · cases hg
  · cases hg
    exact hb

set_option maxRecDepth 20000 in
set_option maxHeartbeats 8000000 in
theorem rcollect_any (w : World) (rb : Nat) (Y : Nat → Prop) (sz : Nat) (tm : Int) (n : Nat) (f : Nat → Nat) (st : Nat → Bool) (ao : Option Addr) (l cap : Nat) (r : Nat → Nat) (h : RefAt w rb Y sz tm n f st) (htm1 : 0 ≤ tm) (htm2 : tm ≤ 4611686018427387904)
    (hr : l = 0 ∨ ∃ b off, ao = some ⟨b, off, none⟩ ∧ b < w.heap.size ∧ ¬ Y b ∧ ∀ k, k < l → w.cell? ⟨b, off + k, none⟩ = some (.int .u64 (r k))) (hrl : ∀ k, k < l → r k < 18446744073709551616) (hl : l ≤ 17592186044416) (hcap : l ≤ cap) (_hcap2 : cap ≤ 9223372036854775807) :
    Calls Try.prog 41 #[.pointer (some ⟨rb, 0, none⟩), .slice ao l cap] w fun e w' => ∃ v, e = .returned v ∧ Own .u64 33 w' w.heap.size v l (fun k => mvV f st (r k) (rootsS f st r k MS.zero)) ∧ ∃ Y2, (∀ g, v.ownBlock = some g → ¬ Y2 g) ∧ RefAt w' rb Y2 sz (tm + 1) (collS n f st r l).n (collS n f st r l).f (collS n f st r l).st ∧ Grows w.heap.size Y Y2 ∧ Fr Y w w' := by
  obtain ⟨iW, hiW, hz0, hz1, hz2⟩ := info_parts infoW
  obtain ⟨iN, hiN, hy0, hy1, hy2⟩ := info_parts infoN
  obtain ⟨vW, vH, hn, hd, h⟩ := h
  obtain ⟨ca, cb, cc, cd⟩ := h.cells
  have hnl := h.hnl
  have hnz := h.nz
  have hz := h.z
  obtain ⟨aoH, capH, rfl⟩ := h.oH.shape
  have HH := hide h
  have HR := hide hr
  have HRL := hide hrl
  clear h hr hrl
  go_enter Try.func41, Try.ntmps41
  go_wp2_with (at_make; refine wpList_mkN rfl _ _ rfl .i64 .i64 _ _ hn rfl rfl (by omega) (by omega) (by omega) ?_; intro w2 R2 F2 hlt2; have e0 := (F2.cell (o := 0) (b := rb) HH.out.lt (fun e => e)).trans ca; have e3 := (F2.cell (o := 3) (b := rb) HH.out.lt (fun e => e)).trans cd; have HR2 := hide R2; have HF2 := hide F2; have hrb2 : rb < w2.heap.size := Nat.lt_of_lt_of_le HH.out.lt F2.size; clear R2 F2 ca cb cc cd)
  go_region_held3 (fun w' => w'.cell? ⟨rb, 0, none⟩ = some (.int .i64 (sz : Int)) ∧ w'.cell? ⟨rb, 3, none⟩ = some (.int .i64 tm)) (go_keep) (fail)
  have hwt : IntKind.i64.wrap (tm + 1) = tm + 1 := by
    simp only [IntKind.wrap, IntKind.bits, IntKind.signed]
    simp
    omega
  rw [hwt]
  obtain ⟨C0, F0⟩ := coll_begin HH.out HR2.out HF2.out
  have hZ0 : Hid (w.heap.size < w2.heap.size) := hide hlt2
  generalize (((w2.alloc (.cells #[.int .u64 0] 33)).alloc (.cells #[.int .i64 (sz : Int), .slice (some ⟨w2.heap.size, 0, none⟩) 1 1, .slice none 0 0, .int .i64 (tm + 1)] 67)).drew) = W3 at *
  generalize hnbE : w2.heap.size + 1 = nb at *
  have hZ1 : Hid (w.heap.size < nb) := hide (by omega)
  clear hnbE
  have HC0 := hide C0
  have HF0 := hide F0
  clear C0 F0 e0 e3 hrb2 hlt2 HR2 HF2
  go_wp2
  go_loopw [7, 8] (fun a b wr => ∃ (k : Nat) (Z : Nat → Prop) (hn2 : Nat) (hd2 : Nat → Nat), k ≤ l ∧ b = .int .i64 (k : Int) ∧ Own .u64 33 wr w.heap.size a k (fun k => mvV f st (r k) (rootsS f st r k MS.zero)) ∧ (∀ g, a.ownBlock = some g → ¬ Z g ∧ g ≠ w.heap.size) ∧ Coll wr rb Y sz tm n f st hn hd nb Z (tm + 1) (rootsS f st r k MS.zero) hn2 hd2 w.heap.size ∧ (∀ g, Z g → w.heap.size < g) ∧ Fr (fun _ => False) w wr) (fun _ b _ => l - (intOf b).toNat)
  case atStart => exact ⟨0, _, 0, _, Nat.zero_le _, rfl, .inl ⟨rfl, rfl⟩, (fun g hg => by cases hg), HC0.out, (fun g hg => by have := hZ0.out; have := hZ1.out; rcases hg with e | e <;> omega), HF0.out⟩
  case round =>
    clear HC0 HF0 hZ0
    obtain ⟨k, Z, hn2, hd2, hk, rfl, hO, hOg, hC, hZg, hF⟩ := hrel
    obtain ⟨aoL, capL, rfl⟩ := hO.shape
    have hltZ := hC.ltZ
    have hszs := hF.size
    have HOg := hide hOg
    have HC := hide hC
    have HZg := hide hZg
    have HF := hide hF
    have HO := hide hO
    have HLZ := hide hltZ
    by_cases hlt : k < l
    · obtain ⟨b, off, rfl, hb1, hb2, hb3⟩ : ∃ b off, ao = some ⟨b, off, none⟩ ∧ b < w.heap.size ∧ ¬ Y b ∧ ∀ k, k < l → w.cell? ⟨b, off + k, none⟩ = some (.int .u64 (r k)) := by
        rcases HR.out with e | e
        · omega
        · exact e
      have hck := (hF.cell (o := off + k) hb1 (fun e => e)).trans (hb3 k hlt)
      have hxl := HRL.out k hlt
      have KW := rmove_any wr rb Y sz tm n f st hn hd nb Z (tm + 1) _ hn2 hd2 w.heap.size hC (r k) hxl
      have hS' : rootsS f st r (k + 1) MS.zero = mvS f st (r k) (rootsS f st r k MS.zero) := rfl
      have HS' := hide hS'
      obtain ⟨y, hyE⟩ : ∃ y, y = mvV f st (r k) (rootsS f st r k MS.zero) := ⟨_, rfl⟩
      rw [← hyE] at KW
      have HY := hide hyE
      clear hO hOg hC hZg hF hltZ hb3 hS' hyE
      go_wp2_with (first
        | (go_at_call 63; refine KW.mono ?_; rintro e w5 ⟨rfl, Z2, hn3, hd3, C5, g1, g2, g3, F5⟩; have O5 := HO.out.fr F5 (fun g hg e => by rcases e with e | e; exact (HOg.out g hg).1 e; exact (HOg.out g hg).2 e); have hown5 := O5.row; have HC5 := hide C5; have HG5 := hide g3; have HF5 := hide F5; have hs5 := F5.size; clear KW C5 g1 g2 g3 F5 O5)
        | (at_builtin; refine wpList_append_lies _ rfl _ _ 28 rfl w.heap.size 33 iW (.int .u64 0) 1 8 Try.underlying28 hiW hz0 hz1 hz2 rfl (by decide) (.slice aoL k capL) k _ rfl (hown5.alloc _) ⟨w5.heap.size, 0, none⟩ 1 1 [.int .u64 (y : Int)] rfl rfl (hcells_one _ _ _) (fun u hu => by simp at hu; subst hu; rfl) (by decide) (by unfold maxLen; omega) (by omega) (by simp; omega) (w5.heap.size + 1) (by simp) ?_; intro g6 cap6 w6 hown6 hgrow6 hat6 hlt6; have F6 := ((Fr.refl (fun q => (Value.slice aoL k capL).ownBlock = some q) w5).alloc _).grow hgrow6 (fun k _ e => e); have S6 := lies_stays (n := k + 1) (cap := cap6) (H := w5.heap.size) hat6 (by omega); have O6 := Own.snocF hown6 HY.out.symm; have HO6 := hide O6; have HF6 := hide F6; have HS6 := hide S6; clear F6 S6 O6 hown6 hgrow6 hat6 hlt6 hown5))
      have hnew : ∀ g, (Value.slice (some ⟨g6, 0, none⟩) (k + 1) cap6).ownBlock = some g → ¬ Z2 g ∧ g ≠ w.heap.size := fun g hg => by
        rcases HS6.out g hg with e | e
        · refine ⟨fun e2 => ?_, (HOg.out g e).2⟩
          rcases HG5.out g e2 with e3 | e3
          · exact (HOg.out g e).1 e3
          · have := HO.out.block_lt e
            omega
        · exact ⟨fun e2 => by have := HC5.out.ltZ.2.1 g e2; omega, by have := HLZ.out.2.2; omega⟩
      refine ⟨⟨k + 1, Z2, hn3, hd3, by omega, by go_num, HO6.out, hnew, HC5.out.fr HF6.out (fun g hg e => ?_), fun g hg => ?_, (HF.out.trans HF5.out (fun g hg e => ?_)).trans HF6.out (fun g hg e => ?_)⟩, ?_⟩
      · rcases hg with hg | hg | hg
        · have h1 := (HLZ.out.1 g hg)
          have h2 := HH.out
          have h3 : g < w.heap.size := RefAt.lt ⟨_, _, _, _, h2⟩ hg
          have h4 := HO.out.base e
          omega
        · rcases HG5.out g hg with e3 | e3
          · exact (HOg.out g e).1 e3
          · have := HO.out.block_lt e
            omega
        · exact (HOg.out g e).2 hg
      · rcases HG5.out g hg with e3 | e3
        · exact HZg.out g e3
        · have := HLZ.out.2.2
          omega
      · rcases e with e | e
        · have := HZg.out g e; omega
        · omega
      · have h4 := HO.out.base e
        omega
      · simp [intOf]
        omega
    · have hkl : k = l := by omega
      subst hkl
      clear hO hOg hC hZg hF hltZ
      go_wp2
      go_loopw [9] (fun a wq => ∃ (i d place : Nat) (S : MS) (Z3 : Nat → Prop) (hn3 : Nat) (hd3 : Nat → Nat), a = .int .i64 (i : Int) ∧ i ≤ hn3 ∧ Coll wq rb Y sz tm n f st hn hd nb Z3 (tm + 1) S hn3 hd3 w.heap.size ∧ ((i < hn3 ∧ hd3 i = place) ∨ (i = hn3 ∧ S.n = place)) ∧ n + 1 ≤ d + place ∧ scanS f st d place S = collS n f st r k ∧ Own .u64 33 wq w.heap.size (.slice aoL k capL) k (fun k => mvV f st (r k) (rootsS f st r k MS.zero)) ∧ (∀ g, (Value.slice aoL k capL).ownBlock = some g → ¬ Z3 g ∧ g ≠ w.heap.size) ∧ (∀ g, Z3 g → w.heap.size < g) ∧ Fr (fun _ => False) w wq) (fun a _ => n + 1 - (intOf a).toNat)
      case atStart => exact ⟨0, n, 1, _, Z, hn2, hd2, rfl, Nat.zero_le _, HC.out, (by rcases HC.out.first with e | e; exact .inl e; exact .inr ⟨e.1.symm, e.2⟩), by omega, rfl, HO.out, HOg.out, HZg.out, HF.out⟩
      case round =>
        clear HC HZg HF HO HLZ HOg hszs
        obtain ⟨i, d, place, S, Z3, hn3, hd3, rfl, hi, hC, hpl, hd0, hscan, hO, hOg, hZg, hF⟩ := hrel
        obtain ⟨hgd, hfb, _, _, hSn, hhS⟩ := hC.base
        obtain ⟨_, ⟨vW2, vH2, hB⟩, _, _, _, _, _⟩ := id hC
        have c1 := hB.cells.2.1
        have c2 := hB.cells.2.2.1
        have HC := hide hC
        have HO := hide hO
        have HOg := hide hOg
        have HZg := hide hZg
        have HF := hide hF
        have HG := hide hgd
        have HFB := hide hfb
        have HSC := hide hscan
        by_cases hlt : i < hn3
        · have hplE : hd3 i = place := by
            rcases hpl with e | e
            · exact e.2
            · omega
          obtain ⟨hst, hnext⟩ := hC.next hlt
          rw [hplE] at hst hnext
          have hpn := hC.ok.good.lt hst
          obtain ⟨gH, capH3, rfl, hh1, hh2, hh3⟩ := hB.oH.rd hlt
          obtain ⟨gW, capW3, rfl, hw1, hw2, hw3⟩ := hB.oW.rd hpn
          rw [hplE] at hh3
          have hfl := hC.ok.fb _ hpn
          obtain ⟨d', hs1, hs2, hs3, hs4, hs5, hs6⟩ := scan_step hC.ok hgd hfb (by omega) hd0 hpn hst
          have HS := hide (⟨hs1, hs2, hs3, hs5, hs6⟩ : _ ∧ _ ∧ _ ∧ _ ∧ _)
          have HPE := hide hplE
          have HST := hide hst
          obtain ⟨t, ht⟩ : ∃ t, t = hTag (S.f place) := ⟨_, rfl⟩
          have htI : (S.f place : Int) / 256 % 16777216 = (t : Int) := by rw [ht]; unfold hTag; omega
          have htl : t ≤ 16777216 := by rw [ht]; unfold hTag; omega
          rw [← ht] at hs4
          have HT := hide ht
          clear hC hO hOg hZg hF hgd hfb hscan hpl hplE hst hnext hs1 hs2 hs3 hs5 hs6 hB ht
          go_wp2
          go_loopw [12] (fun a wq => ∃ (m : Nat) (Z4 : Nat → Prop) (hn4 : Nat) (hd4 : Nat → Nat), 1 ≤ m ∧ m ≤ t + 1 ∧ a = .int .i64 (m : Int) ∧ Coll wq rb Y sz tm n f st hn hd nb Z4 (tm + 1) (fieldsS f st (place + 1) (m - 1) S) hn4 hd4 w.heap.size ∧ hn3 ≤ hn4 ∧ (∀ q, q < hn3 → hd4 q = hd3 q) ∧ Own .u64 33 wq w.heap.size (.slice aoL k capL) k (fun k => mvV f st (r k) (rootsS f st r k MS.zero)) ∧ (∀ g, (Value.slice aoL k capL).ownBlock = some g → ¬ Z4 g ∧ g ≠ w.heap.size) ∧ (∀ g, Z4 g → w.heap.size < g) ∧ Fr (fun _ => False) w wq) (fun a _ => t + 1 - (intOf a).toNat)
          case atStart => exact ⟨1, Z3, hn3, hd3, Nat.le_refl _, by omega, rfl, HC.out, Nat.le_refl _, fun _ _ => rfl, HO.out, HOg.out, HZg.out, HF.out⟩
          case round =>
            clear HZg HF HO HOg c1 c2 hh3 hw3 htI
            obtain ⟨m, Z4, hn4, hd4, hm1, hm2, rfl, hC4, hnn, hpre, hO, hOg, hZg, hF⟩ := hrel
            obtain ⟨kp1, kp2, kp3⟩ := fieldsS_keeps f st (place + 1) S (m - 1)
            have HO := hide hO
            have HOg := hide hOg
            have HZg := hide hZg
            have HF := hide hF
            have HC4 := hide hC4
            have HPRE := hide hpre
            have hltZ := hC4.ltZ
            have HLZ := hide hltZ
            have hszs := hF.size
            by_cases hmt : m ≤ t
            · have hq : place + m < (fieldsS f st (place + 1) (m - 1) S).n := by omega
              have hstq : (fieldsS f st (place + 1) (m - 1) S).st (place + m) = false := by
                rw [kp2 _ (by omega)]
                have := HS.out.2.2.1 (m - 1) (by rw [← HT.out]; omega)
                rw [show place + 1 + (m - 1) = place + m by omega] at this
                exact this
              obtain ⟨_, ⟨vW4, vH4, hB4⟩, hok4, _, _, _, _⟩ := id hC4
              have c1 := hB4.cells.2.1
              obtain ⟨g4, cap4, rfl, hw41, hw42, hw43⟩ := hB4.oW.rd hq
              have hxl := hok4.fb _ hq
              have KW := rmove_any wr rb Y sz tm n f st hn hd nb Z4 (tm + 1) _ hn4 hd4 w.heap.size hC4 _ hxl
              have hvl := mvV_lt hok4 HG.out HFB.out (by omega) hxl
              have hS' : fieldsS f st (place + 1) m S = (mvS f st ((fieldsS f st (place + 1) (m - 1) S).f (place + m)) (fieldsS f st (place + 1) (m - 1) S)).set (place + m) (mvV f st ((fieldsS f st (place + 1) (m - 1) S).f (place + m)) (fieldsS f st (place + 1) (m - 1) S)) := by
                have : fieldsS f st (place + 1) (m - 1 + 1) S = (mvS f st ((fieldsS f st (place + 1) (m - 1) S).f (place + 1 + (m - 1))) (fieldsS f st (place + 1) (m - 1) S)).set (place + 1 + (m - 1)) (mvV f st ((fieldsS f st (place + 1) (m - 1) S).f (place + 1 + (m - 1))) (fieldsS f st (place + 1) (m - 1) S)) := rfl
                rw [show place + 1 + (m - 1) = place + m by omega, show m - 1 + 1 = m by omega] at this
                exact this
              have hsn := hok4.le HG.out
              generalize fieldsS f st (place + 1) (m - 1) S = S4 at *
              have hq2 : place + m < (mvS f st (S4.f (place + m)) S4).n := Nat.lt_of_lt_of_le hq mvS_grows.1
              have hst2 : (mvS f st (S4.f (place + m)) S4).st (place + m) = false := by rw [mvS_st_old hq]; exact hstq
              generalize S4.f (place + m) = x at *
              obtain ⟨y, hyE⟩ : ∃ y, y = mvV f st x S4 := ⟨_, rfl⟩
              rw [← hyE] at KW hvl hS'
              have hmle := ((hok4.mv HG.out HFB.out x).le HG.out)
              generalize mvS f st x S4 = S5 at *
              have HS' := hide hS'
              have HQ2 := hide hq2
              have HST2 := hide hst2
              have HVL := hide hvl
              clear hO hOg hZg hF hC4 hpre hltZ hB4 hok4 hstq hS' hyE hst2 kp1 kp2 kp3
              go_wp2_with (go_at_call 63; refine KW.mono ?_; rintro e w5 ⟨rfl, Z5, hn5, hd5, C5, g1, g2, g3, F5⟩; obtain ⟨g6, cap6, p1, p2, p3, p4, p5, p6, p7⟩ := C5.put HQ2.out HST2.out HVL.out; have HP6 := hide p6; have HP7 := hide p7; have HC5 := hide C5; have HG1 := hide g1; have HG2 := hide g2; have HG3 := hide g3; have HF5 := hide F5; have hs5 := F5.size; clear KW C5 g1 g2 g3 F5 p6 p7)
              go_roundw
              case rel =>
                refine ⟨m + 1, Z5, hn5, hd5, by omega, by omega, by go_num, by rw [show m + 1 - 1 = m by omega, HS'.out]; exact HP6.out, Nat.le_trans hnn HG1.out, fun q hq => (HG2.out q (by omega)).trans (HPRE.out q hq), (HO.out.fr HF5.out (fun g hg e => ?_)).fr HP7.out (fun g hg e => ?_), fun g hg => ⟨fun e => ?_, (HOg.out g hg).2⟩, fun g hg => ?_, (HF.out.trans HF5.out (fun g hg e => ?_)).trans HP7.out (fun g hg e => ?_)⟩
                · rcases e with e | e
                  · exact (HOg.out g hg).1 e
                  · exact (HOg.out g hg).2 e
                · rcases HG3.out g e with e | e
                  · exact (HOg.out g hg).1 e
                  · have := HO.out.block_lt hg; omega
                · rcases HG3.out g e with e | e
                  · exact (HOg.out g hg).1 e
                  · have := HO.out.block_lt hg; omega
                · rcases HG3.out g hg with e | e
                  · exact HZg.out g e
                  · have := HLZ.out.2.2; omega
                · rcases e with e | e
                  · have := HZg.out g e; omega
                  · omega
                · rcases HG3.out g e with e | e
                  · have := HZg.out g e; omega
                  · omega
              case measure => simp [intOf]; omega
            · have hme : m = t + 1 := by omega
              subst hme
              have hkp := kp3 place (by omega) (.inl (by omega))
              simp only [Nat.add_sub_cancel] at hC4 hkp HC4
              have hnx := (hC4.next (i := i) (by omega)).2
              rw [hpre i hlt, HPE.out, hkp] at hnx
              have hsc := HS.out.2.1
              rw [← HT.out] at hsc
              have HSC2 := hide (hsc.symm.trans HSC.out)
              have HNX := hide hnx
              clear hO hOg hZg hF hC4 hpre hltZ kp1 kp2 kp3 hkp hnx hsc
              go_wp2
              go_roundw
              case rel => exact ⟨i + 1, d', place + hLen (S.f place), _, Z4, hn4, hd4, by go_num, by omega, HC4.out, (by rcases HNX.out with e | e; exact .inl e; exact .inr e), HS.out.1, HSC2.out, HO.out, HOg.out, HZg.out, HF.out⟩
              case measure => simp [intOf]; omega
        · have hie : i = hn3 := by omega
          have hSp : S.n = place := by
            rcases hpl with e | e
            · omega
            · exact e.2
          have hfin : S = collS n f st r k := by rw [← hscan, scan_done (by omega)]
          obtain ⟨⟨vWo, vHo, hA⟩, _, _, _, hyz, _, _⟩ := id hC
          have HFIN := hide hfin
          have HA := hide hA
          have HB := hide hB
          have HYZ := hide hyz
          have b0 := hB.cells
          have a0 := hA.cells
          obtain ⟨b1, b2, b3, b4⟩ := b0
          obtain ⟨a1, a2, a3, a4⟩ := a0
          have fz := fun j => frozen_of_row wr rb j _ _ hA.blk
          obtain ⟨aoW4, capW4, rfl⟩ := hB.oW.shape
          obtain ⟨aoH4, capH4, rfl⟩ := hB.oH.shape
          have HSP := hide hSp
          have hblk := hA.blk
          clear hC hO hOg hZg hF hgd hfb hscan hpl hB hA hyz hfin
          go_wp2
          go_ret
          subst hSp
          have hY : ∀ g, Y g → g < w.heap.size := fun g hg => RefAt.lt ⟨_, _, _, _, HH.out⟩ hg
          have hYrb : Y rb := (HH.out.xs rb).2 (.inl rfl)
          have hrw := hY rb hYrb
          have hfr : Fr (fun q => q = rb) wr ((((wr.setCell ⟨rb, 0, none⟩ (.int .i64 (sz : Int))).setCell ⟨rb, 1, none⟩ (.slice aoW4 S.n capW4)).setCell ⟨rb, 2, none⟩ (.slice aoH4 hn3 capH4)).setCell ⟨rb, 3, none⟩ (.int .i64 (tm + 1))) :=
            Fr.setCell (Fr.setCell (Fr.setCell (Fr.setCell (S := fun q => q = rb) (Fr.refl _ _) (fun _ => rfl) _ _) (fun _ => rfl) _ _) (fun _ => rfl) _ _) (fun _ => rfl) _ _
          have hZrb : ∀ g, Z3 g → g ≠ rb := fun g hg e => by have := HZg.out g hg; omega
          have hWn : ∀ g, (Value.slice aoW4 S.n capW4).ownBlock = some g → g ≠ rb := fun g hg => hZrb g ((HB.out.xs g).2 (.inr (.inl hg)))
          have hHn : ∀ g, (Value.slice aoH4 hn3 capH4).ownBlock = some g → g ≠ rb := fun g hg => hZrb g ((HB.out.xs g).2 (.inr (.inr hg)))
          have hB := HB.out
          have hR : RefIn ((((wr.setCell ⟨rb, 0, none⟩ (.int .i64 (sz : Int))).setCell ⟨rb, 1, none⟩ (.slice aoW4 S.n capW4)).setCell ⟨rb, 2, none⟩ (.slice aoH4 hn3 capH4)).setCell ⟨rb, 3, none⟩ (.int .i64 (tm + 1))) rb (fun q => q = rb ∨ (Value.slice aoW4 S.n capW4).ownBlock = some q ∨ (Value.slice aoH4 hn3 capH4).ownBlock = some q) sz (tm + 1) S.n S.f S.st (.slice aoW4 S.n capW4) (.slice aoH4 hn3 capH4) hn3 hd3 := by
            refine ⟨?_, hB.oW.fr hfr hWn, hB.oH.fr hfr hHn, fun e => hWn rb e rfl, fun e => hHn rb e rfl, hB.nn, hB.inc, hB.heads, hB.good, hB.fb, hB.hnl, hB.nz, hB.z, fun _ => Iff.rfl⟩
            rw [heap_setCell_same _ rb 3 _ _ _ (heap_setCell_same _ rb 2 _ _ _ (heap_setCell_same _ rb 1 _ _ _ (heap_setCell_same wr rb 0 _ _ _ hblk)))]
            rfl
          have hZlt : ∀ q, Z3 q → w.heap.size ≤ q := fun q hq => Nat.le_of_lt (HZg.out q hq)
          refine ⟨_, rfl, HO.out.fr hfr (fun g hg e => ?_), _, fun g hg e => ?_, ⟨_, _, _, _, by rw [← HFIN.out]; exact hR⟩, fun q hq => ?_, Fr.trans (HF.out.mono (S' := Y) (fun _ _ e => e.elim)) hfr (fun q _ e => by rw [e]; exact hYrb)⟩
          · have := HO.out.base hg
            omega
          · rcases e with e | e | e
            · have := HO.out.base hg
              omega
            · exact (HOg.out g hg).1 ((hB.xs g).2 (.inr (.inl e)))
            · exact (HOg.out g hg).1 ((hB.xs g).2 (.inr (.inr e)))
          · rcases hq with e | e | e
            · exact .inl (by rw [e]; exact hYrb)
            · exact .inr (hZlt q ((hB.xs q).2 (.inr (.inl e))))
            · exact .inr (hZlt q ((hB.xs q).2 (.inr (.inr e))))

end Go.Proofs.Ytfeofdeffmnbkaa
