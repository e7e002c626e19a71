/-
  What is proved here: the document's own heap: a word is moved whose object is copied.
-/
import Derived.Test.YtfeofdeffmnbkaaHRMove
import Derived.Test.YtfeofdeffmnbkaaLHFields
import Derived.Deep.RegionLaw
namespace Go.Proofs.Ytfeofdeffmnbkaa
open Go Go.RowKit

set_option maxRecDepth 20000 in
set_option maxHeartbeats 8000000 in
theorem rmove_copy (w : World) (rb : Nat) (Y : Nat → Prop) (sz : Nat) (tm : Int) (n : Nat) (f : Nat → Nat) (st : Nat → Bool) (vW vH : Value) (hn : Nat) (hd : Nat → Nat) (h : RefIn w rb Y sz tm n f st vW vH hn hd)
    (nb : Nat) (Z : Nat → Prop) (tmN : Int) (S : MS) (vW2 vH2 : Value) (hn2 : Nat) (hd2 : Nat → Nat) (hN : RefIn w nb Z sz tmN S.n S.f S.st vW2 vH2 hn2 hd2) (ho : MSok n f st S)
    (tb : Nat) (hT : RowAt .i64 3 w tb hn hn (fun k => S.fw (hd k))) (hYZ : ∀ k, Y k → ¬ Z k) (hYT : ¬ Y tb) (hZT : ¬ Z tb) (x p : Nat) (hx : x < 18446744073709551616) (hp : isPtr st x = true) (hxp : x / 4 = p) (h0 : S.fw p = 0) :
    Calls Try.prog 63 #[.pointer (some ⟨rb, 0, none⟩), .pointer (some ⟨nb, 0, none⟩), .slice (some ⟨tb, 0, none⟩) hn hn, .int .u64 (x : Int)] w fun e w' => e = .returned (.int .u64 ((4 * S.n : Nat) : Int)) ∧ ∃ Z2 vW3 vH3, RefIn w' nb Z2 sz tmN (S.copy f p).n (S.copy f p).f (S.copy f p).st vW3 vH3 (hn2 + 1) (upd hd2 hn2 S.n) ∧ RowAt .i64 3 w' tb hn hn (fun k => (S.copy f p).fw (hd k)) ∧ Grows w.heap.size Z Z2 ∧ Fr (fun k => Z k ∨ k = tb) w w' := by
  obtain ⟨iW, hiW, hz0, hz1, hz2⟩ := info_parts infoW
  obtain ⟨iN, hiN, hy0, hy1, hy2⟩ := info_parts infoN
  have KI := ris_any w rb Y sz tm n f st x ⟨_, _, _, _, h⟩ hx
  have KT := rTagged_any w rb Y sz tm n f st x ⟨_, _, _, _, h⟩ hx
  have KR := rRaws_any w rb Y sz tm n f st x ⟨_, _, _, _, h⟩ hx
  rw [hp] at KI
  rw [headOf_yes hp, hxp] at KT KR
  have hst := (isPtr_st hp).1
  rw [hxp] at hst
  obtain ⟨k, hk, hkE⟩ := (h.heads _).1 hst
  have KF := find_yes w rb Y sz tm n f st vW vH hn hd h k hk
  rw [hkE] at KF
  have hct := hT.cell hk
  simp only [hkE, h0] at hct
  have hct0 : w.cell? ⟨tb, k, none⟩ = some (.int .i64 0) := hct
  have hft := hT.free k
  have hz := h.z
  have hnz := h.nz
  have hhn : hn ≤ 1048576 := by have := h.hnl; omega
  have hlt := h.good.lt hst
  have hle := (ho.copy h.good h.fb hst h0).le h.good
  have hlen2 : (S.copy f p).n = S.n + hLen (f p) := rfl
  have hend := (h.good.inn p hst).2
  have hSn : S.n + hLen (f p) ≤ n := hle
  have hLd : hLen (f p) = 1 + hTag (f p) + hRaw (f p) := rfl
  have hpI : (x : Int) / 4 = (p : Int) := by omega
  have hYrb : Y rb := (h.xs rb).2 (.inl rfl)
  have hZnb : Z nb := (hN.xs nb).2 (.inl rfl)
  have hne1 : rb ≠ nb := fun e => hYZ rb hYrb (by rw [e]; exact hZnb)
  have hne2 : rb ≠ tb := fun e => hYT (by rw [← e]; exact hYrb)
  have hne3 : nb ≠ tb := fun e => hZT (by rw [← e]; exact hZnb)
  have hn2l := hN.hnl
  -- the list of places is turned first
  have FT : Fr (fun k => k = tb) w (w.setCell ⟨tb, k, none⟩ (.int .i64 (S.n : Int))) := Fr.setCell (S := fun k => k = tb) (Fr.refl _ _) (fun _ => rfl) _ _
  have hT1 := hT.set hk S.n
  have h1 := h.fr FT (fun k hk e => hYT (by rw [← e]; exact hk))
  have hN1 := hN.fr FT (fun k hk e => hZT (by rw [← e]; exact hk))
  obtain ⟨gW, capW, rfl, hcW1, hcW2, hcl⟩ := h1.oW.rd hlt
  have hrd : ∀ j, j < hLen (f p) → (w.setCell ⟨tb, k, none⟩ (.int .i64 (S.n : Int))).cell? ⟨gW, p + j, none⟩ = some (.int .u64 (f (p + j))) := fun j hj => by
    obtain ⟨g', cap', e, _, _, hck⟩ := h1.oW.rd (i := p + j) (by omega)
    cases e
    exact hck
  have hYg : Y gW := (h.xs gW).2 (.inr (.inl rfl))
  have hgW := World.block_lt_of_cell? _ _ hcl
  obtain ⟨aoW2, capW2, rfl⟩ := hN.oW.shape
  obtain ⟨aoH2, capH2, rfl⟩ := hN.oH.shape
  have c0 := hN.cells.2.1
  have c1 := hN1.cells.2.1
  have c2 := hN1.cells.2.2.1
  have c3 := h1.cells.2.1
  have hownH := hN1.oH.row
  have HM := hide hN1.mem
  have HN := hide hN
  have HR := hide hrd
  have HT1 := hide hT1
  have HFT := hide FT
  have HYZ := hide hYZ
  have HO := hide ho
  have HC := hide hlen2
  have HH := hide h
  have HZT := hide hZT
  have HKE := hide hkE
  have HST := hide hst
  generalize hTag (f p) = t at *
  generalize hRaw (f p) = r at *
  clear h hN ho hT hYZ hYT hZT hrd h1 hN1 hT1 FT hp hxp hst hlen2 hct hle hkE
  go_enter Try.func63, Try.ntmps63
  go_wp2_with (first
    | (go_at_call 42; refine KI.mono ?_; rintro e w' ⟨rfl, hw⟩; replace hw := hw.symm; subst hw; clear KI)
    | (go_at_call 64; refine KF.mono ?_; rintro e w' ⟨rfl, hw⟩; replace hw := hw.symm; subst hw; clear KF)
    | (go_at_call 44; refine KT.mono ?_; rintro e w' ⟨rfl, hw⟩; replace hw := hw.symm; subst hw; clear KT)
    | (go_at_call 45; refine KR.mono ?_; rintro e w' ⟨rfl, hw⟩; replace hw := hw.symm; subst hw; clear KR))
  rw [show (1 : Int) + (t : Int) + (r : Int) = ((hLen (f p) : Nat) : Int) by omega]
  generalize w.setCell ⟨tb, k, none⟩ (.int .i64 (S.n : Int)) = W at *
  generalize hLen (f p) = L at *
  have hL1 : 1 ≤ L := by omega
  have hcp : ¬ capW = p := by omega
  clear hLd
  have hnbW : Hid (nb < W.heap.size) := hide HM.out.lt
  have c2a : (W.alloc (.cells #[.int .i64 (S.n : Int)] 3)).cell? ⟨nb, 2, none⟩ = some (.slice aoH2 hn2 capH2) := (((Fr.refl (fun _ => False) W).alloc _).cell hnbW.out (fun e => e)).trans c2
  go_region_law
    ((refine step_append_lies _ (by rfl) _ _ 34 (by rfl) 0 3 iN (.int .i64 0) 1 8 Try.underlying34 hiN hy0 hy1 hy2 rfl (by decide) (.slice aoH2 hn2 capH2) hn2 _ (by rfl) (World.ownsRow.alloc (w := W.drew) hownH _) ⟨W.heap.size, 0, none⟩ 1 1 [.int .i64 (S.n : Int)] (by rfl) rfl (hcells_one W.drew _ _) (fun u hu => by simp at hu; subst hu; rfl) (by decide) (by unfold maxLen; omega) (by omega) (by simp) (W.heap.size + 1) (by simp) ?_; intro g2 cap2 w2 hown2 hgrow2 hat2 hlt2; have F2 := ((Fr.refl (fun k => (Value.slice aoH2 hn2 capH2).ownBlock = some k) W.drew).alloc _).grow hgrow2 (fun k _ e => e); have S2 := lies_stays (n := hn2 + 1) (cap := cap2) (H := W.heap.size) hat2 (by omega); obtain ⟨q1, q2, M2⟩ := (HM.out.fr (S := fun _ => False) ((Fr.refl _ _).drew) (fun _ _ e => e)).growH F2 (Own.snoc hown2) S2; have c5 := (F2.cell (b := nb) (o := 1) hnbW.out HM.out.nH).trans c1; have c6 := M2.cells.2.1; have HM2 := hide M2; have HF2 := hide F2; have HS2 := hide S2; clear M2 F2 S2 hown2 hgrow2 hat2 hlt2))
  all_goals
    have F8 : Fr (fun k => k = nb ∨ (Value.slice aoH2 hn2 capH2).ownBlock = some k) W (w2.setCell ⟨nb, 2, none⟩ (.slice (some ⟨g2, 0, none⟩) (hn2 + 1) cap2)) := (Fr.mono (Fr.trans ((Fr.refl _ W).drew) HF2.out (fun _ _ e => e)) (fun _ _ e => .inr e)).setCell (fun _ => .inl rfl) _ _
    have NF : ∀ g, ¬ Z g → ¬ (g = nb ∨ (Value.slice aoH2 hn2 capH2).ownBlock = some g) := fun g hg e => hg ((HN.out.xs g).2 (by rcases e with e | e; exact .inl e; exact .inr (.inr e)))
    generalize w2.setCell ⟨nb, 2, none⟩ (.slice (some ⟨g2, 0, none⟩) (hn2 + 1) cap2) = W2 at *
    have hrbW : rb < W.heap.size := Nat.lt_of_lt_of_le HH.out.lt HFT.out.size
    have d3 := (F8.cell (o := 1) hrbW (NF rb (HYZ.out rb hYrb))).trans c3
    have HR2 := hide (fun j (hj : j < L) => (F8.cell (o := p + j) hgW (NF gW (HYZ.out gW hYg))).trans (HR.out j hj))
    have HF8 := hide F8
    have hownW := HM2.out.oW.row
    have hwr : ∀ a : Int, 0 ≤ a → a ≤ 33554432 → IntKind.i64.wrap a = a := fun a a0 a1 => by
      simp only [IntKind.wrap, IntKind.bits, IntKind.signed]
      simp
      omega
    have hw1 := hwr ((p : Int) + (L : Int)) (by omega) (by omega)
    have hI1 : ((p : Int) + (L : Int)).toNat = p + L := by omega
    have hI2 : (p : Int) + (L : Int) ≤ (capW : Int) := by omega
    have hI3 : (0 : Int) ≤ (p : Int) + (L : Int) := by omega
    have hI4 : (p : Int) ≤ (p : Int) + (L : Int) := by omega
    clear hwr c0 c1 c2 c2a c3 c5 q1 q2 F8 NF hcl hct0 hft hownH
    go_wp2
    go_region_law
      ((refine step_append_lies _ (by rfl) _ _ 28 (by rfl) 0 33 iW (.int .u64 0) 1 8 Try.underlying28 hiW hz0 hz1 hz2 rfl (by decide) (.slice aoW2 S.n capW2) S.n _ (by rfl) hownW ⟨gW, p, none⟩ L (capW - p) (cellsOf .u64 (fun j => f (p + j)) L) (by rfl) (by rw [cellsOf_length]; omega) (hcells_at (w := W2.drew) HR2.out) (cellsOf_one _ _ _) (by omega) (by unfold maxLen; omega) (by omega) (by simp) W2.heap.size (by simp) ?_; intro g4 cap4 w4 hown4 hgrow4 hat4 hlt4; have F4 := (Fr.refl (fun k => (Value.slice aoW2 S.n capW2).ownBlock = some k) W2.drew).grow hgrow4 (fun k _ e => e); have S4 := lies_stays (n := S.n + L) (cap := cap4) (H := W2.heap.size) hat4 (by omega); obtain ⟨q3, q4, M4⟩ := (HM2.out.fr (S := fun _ => False) ((Fr.refl _ _).drew) (fun _ _ e => e)).growW F4 (Own.cat hown4) S4; have HM4 := hide M4; have HF4 := hide F4; have HS4 := hide S4; clear M4 F4 S4 hown4 hgrow4 hat4 hlt4))
  all_goals
    have FZ : Fr Z W (w4.setCell ⟨nb, 1, none⟩ (.slice (some ⟨g4, 0, none⟩) (S.n + L) cap4)) := (Fr.trans (HF8.out.mono (S' := Z) (fun k _ e => (HN.out.xs k).2 (by rcases e with e | e; exact .inl e; exact .inr (.inr e)))).drew HF4.out (fun k _ e => (HN.out.xs k).2 (.inr (.inl e)))).setCell (fun _ => hZnb) 1 _
    have FA := Fr.trans (HFT.out.mono (S' := fun k => Z k ∨ k = tb) (fun _ _ e => .inr e)) FZ (fun _ _ e => .inl e)
    have hRow := HT1.out.fr FZ HZT.out
    have hcT := hRow.cell hk
    simp only [upd_same] at hcT
    have HRow := hide hRow
    have HFA := hide FA
    clear FZ FA hRow q3 q4 d3 c6 hownW
    generalize w4.setCell ⟨nb, 1, none⟩ (.slice (some ⟨g4, 0, none⟩) (S.n + L) cap4) = W5 at *
    go_wp2
    go_ret
    have hM := HM4.out
    have hcopy := HO.out.copy HH.out.good HH.out.fb HST.out h0
    have hszs : w.heap.size ≤ W2.heap.size := Nat.le_trans HFT.out.size HF8.out.size
    refine ⟨retI (by omega), fun i => i = nb ∨ (Value.slice (some ⟨g4, 0, none⟩) (S.n + L) cap4).ownBlock = some i ∨ (Value.slice (some ⟨g2, 0, none⟩) (hn2 + 1) cap2).ownBlock = some i, _, _, ⟨hM.blk, by rw [HC.out]; exact hM.oW, hM.oH, hM.nW, hM.nH, hM.nn, inc_more HN.out.inc (fun i hi => HN.out.good.lt ((HN.out.heads _).2 ⟨i, hi, rfl⟩)), heads_more HN.out.heads, hcopy.good, hcopy.fb, by rw [HC.out]; omega, by rw [HC.out]; omega, hz, fun _ => Iff.rfl⟩, HRow.out.congr (fun j hj => ?_), fun i hi => ?_, HFA.out⟩
    · show upd (fun k => S.fw (hd k)) k S.n j = upd S.fw p S.n (hd j)
      by_cases c : j = k
      · rw [c, upd_same, HKE.out, upd_same]
      · rw [upd_other c, upd_other (fun e => c (hd_inj HH.out.inc hj hk (e.trans HKE.out.symm)))]
    · rcases hi with e | e | e
      · exact .inl (by rw [e]; exact hZnb)
      · rcases HS4.out i e with e | e
        · exact .inl ((HN.out.xs i).2 (.inr (.inl e)))
        · exact .inr (by omega)
      · rcases HS2.out i e with e | e
        · exact .inl ((HN.out.xs i).2 (.inr (.inr e)))
        · exact .inr (Nat.le_trans HFT.out.size e)

end Go.Proofs.Ytfeofdeffmnbkaa
