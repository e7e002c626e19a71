/-
  What is proved here: the heap's move of all that the roots reach: the walk.
-/
import Derived.Test.YtfeofdeffmnbkaaHAll
namespace Go.Proofs.Ytfeofdeffmnbkaa
open Go Go.RowKit

/-- What a move keeps beside the heap: its two pointers, a new list, the roots. -/
structure Beside (w wr : World) (hb : Nat) (X Y : Nat → Prop) (i gm l : Nat) (mf : Nat → Nat) : Prop where
  grows : Grows w.heap.size X Y
  fr : Fr X w wr
  nb : ¬ Y w.heap.size
  ng : ¬ Y gm
  lb : w.heap.size < wr.heap.size
  ge : w.heap.size ≤ gm
  ne : gm ≠ w.heap.size
  c0 : wr.cell? ⟨w.heap.size, 0, none⟩ = some (.pointer (some ⟨hb, 2 * (1 - i), none⟩))
  c1 : wr.cell? ⟨w.heap.size, 1, none⟩ = some (.pointer (some ⟨hb, 2 * i, none⟩))
  row : RowAt .u64 33 wr gm l l mf

theorem Beside.next {w wr w2 : World} {hb : Nat} {X Y Z : Nat → Prop} {i gm l : Nat} {mf : Nat → Nat} (h : Beside w wr hb X Y i gm l mf) (hG : Grows wr.heap.size Y Z) (hF : Fr Y wr w2) : Beside w w2 hb X Z i gm l mf := by
  have hg := h.row.lt
  have hs := h.fr.size
  refine ⟨h.grows.trans hG hs, h.fr.trans hF fun k hk e => ?_, fun e => ?_, fun e => ?_, Nat.lt_of_lt_of_le h.lb hF.size, h.ge, h.ne, (hF.cell h.lb h.nb).trans h.c0, (hF.cell h.lb h.nb).trans h.c1, h.row.fr hF h.ng⟩
  · rcases h.grows k e with e | e
    · exact e
    · omega
  · rcases hG _ e with e | e
    · exact h.nb e
    · have := h.lb; omega
  · rcases hG _ e with e | e
    · exact h.ng e
    · omega
theorem Beside.put {w wr : World} {hb : Nat} {X Y : Nat → Prop} {i gm l : Nat} {mf : Nat → Nat} (h : Beside w wr hb X Y i gm l mf) {k : Nat} (hk : k < l) (y : Nat) : Beside w (wr.setCell ⟨gm, k, none⟩ (.int .u64 y)) hb X Y i gm l (upd mf k y) := by
  have hF : Fr (fun k => k = gm) wr (wr.setCell ⟨gm, k, none⟩ (.int .u64 y)) := Fr.setCell (S := fun k => k = gm) (Fr.refl _ _) (fun _ => rfl) _ _
  exact ⟨h.grows, h.fr.trans hF fun j hj e => by have := h.ge; omega, h.nb, h.ng, Nat.lt_of_lt_of_le h.lb hF.size, h.ge, h.ne, (hF.cell h.lb (fun e => h.ne e.symm)).trans h.c0, (hF.cell h.lb (fun e => h.ne e.symm)).trans h.c1, h.row.set hk y⟩

theorem wrap_i64 (x : Nat) (h : x ≤ 1048577) : IntKind.i64.wrap (x : Int) = (x : Int) := by
  simp only [IntKind.wrap, IntKind.bits, IntKind.signed]
  simp
  omega

set_option maxRecDepth 20000 in
set_option maxHeartbeats 8000000 in
theorem mall_any (w : World) (hb : Nat) (X : Nat → Prop) (sz : Nat) (tm : Int) (n : Nat) (f : Nat → Nat) (st : Nat → Bool) (i : Nat) (v u v' u' : Value) (nJ : Nat) (fJ : Nat → Nat) (m : Nat) (s : Nat → Nat) (m' : Nat) (s' : Nat → Nat) (h : PreIn w hb X sz tm n f st i v u v' u' nJ fJ m s m' s')
    (ao : Option Addr) (l cap : Nat) (r : Nat → Nat) (hr : l = 0 ∨ ∃ b off, ao = some ⟨b, off, none⟩ ∧ b < w.heap.size ∧ ¬ X b ∧ ∀ k, k < l → w.cell? ⟨b, off + k, none⟩ = some (.int .u64 (r k))) (hrl : ∀ k, k < l → r k < 18446744073709551616) (hl : l ≤ 17592186044416) (hcap : l ≤ cap) (hcap2 : cap ≤ 9223372036854775807) :
    Calls Try.prog 48 #[.agg #[.pointer (some ⟨hb, 2 * (1 - i), none⟩), .pointer (some ⟨hb, 2 * i, none⟩)], .slice ao l cap] w fun e w' => ∃ gm X2, e = .returned (.slice (some ⟨gm, 0, none⟩) l l) ∧ w.heap.size ≤ gm ∧ RowAt .u64 33 w' gm l l (fun k => mvV f st (r k) (rootsS f st r k MS.zero)) ∧ ¬ X2 gm ∧ Mov w' hb X2 sz tm n f st (collS n f st r l) i ∧ Grows w.heap.size X X2 ∧ Fr X w w' := by
  have hfr0 : Fr (fun _ => False) w (w.alloc (.cells #[.pointer (some ⟨hb, 2 * (1 - i), none⟩), .pointer (some ⟨hb, 2 * i, none⟩)] 76)) := (Fr.refl _ _).alloc _
  have hP1 : PreIn (w.alloc (.cells #[.pointer (some ⟨hb, 2 * (1 - i), none⟩), .pointer (some ⟨hb, 2 * i, none⟩)] 76)) hb X sz tm n f st i v u v' u' nJ fJ m s m' s' :=
    ⟨h.i1, h.a.alloc _, h.b.alloc _, h.far, h.markF, h.sbF, h.mlF, h.good, h.fb, h.nz, h.z, h.xs⟩
  have hXlt : ∀ k, X k → k < w.heap.size := fun k hk => by
    rcases (h.xs k).1 hk with (e | e | e) | e | e
    · rw [e]; exact h.a.lt
    · exact h.a.ov.block_lt e
    · exact h.a.ou.block_lt e
    · exact h.b.ov.block_lt e
    · exact h.b.ou.block_lt e
  have KE := empty_any 74 _ hb _ (2 * i) v u nJ fJ m s hP1.a
  have HP1 := hide hP1
  have HXL := hide hXlt
  have HR := hide hr
  have HRL := hide hrl
  have hgd := h.good
  have hfb := h.fb
  have hn : n ≤ 1048576 := Nat.le_trans h.nz h.z
  have HOR := hide (MSok.roots hgd hfb r)
  have HGD := hide hgd
  have HFB := hide hfb
  have hi1 := h.i1
  clear hP1 hXlt hr hrl h hfr0 hgd hfb
  go_enter Try.func48, Try.ntmps48
  go_wp2_with (first
    | (go_at_call 49; refine KE.mono ?_; rintro e w1 ⟨rfl, v2, u2, ha2, su2, sv2, hf2⟩; rw [heapCells_v hi1, heapCells_u hi1] at ha2; obtain ⟨X1, M1, G1, F1⟩ := HP1.out.begin ha2 su2 sv2 hf2; have hM1 := hide M1; have hG1 := hide G1; have hF1 := hide F1; clear M1 G1 F1 ha2 su2 sv2 hf2)
    | (at_make; refine wpList_mkW rfl _ _ rfl .i64 .i64 _ _ l rfl rfl (by omega) (by omega) (by omega) ?_; intro w2 R2 F2))
  have hX1 : ∀ k, X1 k → X k ∨ w.heap.size + 1 ≤ k := fun k hk => by
    rcases hG1.out k hk with e | e
    · exact .inl e
    · simp at e
      exact .inr e
  have hb2 : Beside w w2 hb X X1 i w1.heap.size l (fun _ => 0) := by
    have hs1 := hF1.out.size
    simp at hs1
    have hnb : ¬ X1 w.heap.size := fun e => by
      rcases hX1 _ e with e | e
      · have := HXL.out _ e; omega
      · omega
    have hc := mcells w (.pointer (some ⟨hb, 2 * (1 - i), none⟩)) (.pointer (some ⟨hb, 2 * i, none⟩)) 76
    have hnx : ¬ X w.heap.size := fun e => by have := HXL.out _ e; omega
    refine ⟨fun k hk => ?_, ?_, hnb, fun e => by have := hM1.out.lt e; omega, ?_, by omega, by omega, ?_, ?_, R2⟩
    · rcases hX1 k hk with e | e
      · exact .inl e
      · exact .inr (by omega)
    · exact (Fr.trans ((Fr.refl X w).alloc _) hF1.out (fun _ _ e => e)).trans F2 (fun _ _ e => e.elim)
    · have := F2.size; omega
    · exact (F2.cell (by omega) (fun e => e)).trans ((hF1.out.cell (by simp) hnx).trans hc.1)
    · exact (F2.cell (by omega) (fun e => e)).trans ((hF1.out.cell (by simp) hnx).trans hc.2)
  have hM2 := hM1.out.fr F2 (fun _ _ e => e)
  have HB2 := hide hb2
  have HM2 := hide hM2
  clear hb2 hM2 hX1 hM1 hG1 hF1 R2 F2
  generalize w1.heap.size = gm at *
  go_loopw [18] (fun a wr => ∃ (k : Nat) (Y : Nat → Prop) (mf : Nat → Nat), k ≤ l ∧ a = .int .i64 (k : Int) ∧ Mov wr hb Y sz tm n f st (rootsS f st r k MS.zero) i ∧ Beside w wr hb X Y i gm l mf ∧ ∀ j, j < k → mf j = mvV f st (r j) (rootsS f st r j MS.zero)) (fun a _ => l - (intOf a).toNat)
  case atStart => exact ⟨0, X1, _, Nat.zero_le _, rfl, HM2.out, HB2.out, fun j hj => by omega⟩
  case round =>
    clear HB2 HM2
    obtain ⟨k, Y, mf, hk, rfl, hM, hB, hmf⟩ := hrel
    by_cases hlt : k < l
    · obtain ⟨b, off, rfl, hbl, hbX, hcs⟩ : ∃ b off, ao = some ⟨b, off, none⟩ ∧ b < w.heap.size ∧ ¬ X b ∧ ∀ k, k < l → w.cell? ⟨b, off + k, none⟩ = some (.int .u64 (r k)) := by
        rcases HR.out with h0 | h0
        · omega
        · exact h0
      have hcell := (hB.fr.cell (o := off + k) hbl hbX).trans (hcs k hlt)
      have hc0 := hB.c0
      have hc1 := hB.c1
      have KW := word_any wr hb Y sz tm n f st _ i (r k) hM (HRL.out k hlt)
      have hS : rootsS f st r (k + 1) MS.zero = mvS f st (r k) (rootsS f st r k MS.zero) := rfl
      rw [← hS] at KW
      have HB := hide hB
      have HMF := hide hmf
      obtain ⟨y, hyE⟩ : ∃ y, y = mvV f st (r k) (rootsS f st r k MS.zero) := ⟨_, rfl⟩
      rw [← hyE] at KW
      have HY := hide hyE
      clear hcs hB hM hmf hS hyE
      obtain ⟨x, hxE⟩ : ∃ x, x = r k := ⟨_, rfl⟩
      rw [← hxE] at hcell KW
      clear hxE
      go_wp2_with (go_at_call 66; refine KW.mono ?_; rintro e w3 ⟨rfl, Y3, M3, G3, F3⟩; have B3 := HB.out.next G3 F3; have hcl := B3.row.cell hlt; have hfz := B3.row.free k; have HB3 := hide (B3.put hlt y); have HM3 := hide (M3.fr (T := fun k => k = gm) (Fr.setCell (S := fun k => k = gm) (Fr.refl _ _) (fun _ => rfl) k (.int .u64 y)) (fun j hj e => B3.ng (by rw [← e]; exact hj))); clear B3 M3 G3 F3)
      refine ⟨⟨k + 1, Y3, _, by omega, by go_num, HM3.out, HB3.out, fun j hj => ?_⟩, ?_⟩
      · by_cases e : j = k
        · subst e
          rw [upd_same]
          exact HY.out
        · rw [upd_other e]
          exact HMF.out j (by omega)
      · simp [intOf]
        omega
    · have hkl : l = k := by omega
      subst hkl
      have hokl := HOR.out l
      have HM := hide hM
      have HB := hide hB
      have HMF := hide hmf
      clear hM hB hmf hlt hk
      go_wp2
      go_loopw [8] (fun a wr => ∃ (pl d : Nat) (Y : Nat → Prop) (S : MS), a = .int .i64 (pl : Int) ∧ Mov wr hb Y sz tm n f st S i ∧ Beside w wr hb X Y i gm l mf ∧ scanS f st d pl S = collS n f st r l ∧ n + 1 ≤ d + pl ∧ (pl = S.n ∨ S.st pl = true) ∧ pl ≤ S.n) (fun a _ => n + 1 - (intOf a).toNat)
      case atStart =>
        refine ⟨1, n, Y, _, rfl, HM.out, HB.out, rfl, by omega, ?_, hokl.good.pos⟩
        rcases hokl.first with e | e
        · exact .inl e.symm
        · exact .inr e
      case round =>
        clear HM HB Y
        obtain ⟨pl, d, Y, S, rfl, hM, hB, hsc, hd, hpl, hple⟩ := hrel
        have hok := hM.base.2.2.2.1
        have hSn := hok.le HGD.out
        have HM := hide hM
        have hc0 := hB.c0
        have hc1 := hB.c1
        obtain ⟨v, u, v', u', m, s, m', s', hI⟩ := hM
        have hcv := hI.a.cellv
        by_cases hlt : pl < S.n
        · have hst : S.st pl = true := by
            rcases hpl with e | e
            · omega
            · exact e
          obtain ⟨d', e1, e2, e3, e4, e5, e6⟩ := scan_step hok HGD.out HFB.out hn hd hlt hst
          obtain ⟨g, cap3, rfl, hc31, hc32, hcl⟩ := hI.a.ov.rd hlt
          have hxl := hok.fb pl hlt
          obtain ⟨x, hxE⟩ : ∃ x, x = S.f pl := ⟨_, rfl⟩
          rw [← hxE] at hcl hxl e1 e2 e3 e4 e5 e6
          obtain ⟨p1, hp1, hp1I⟩ : ∃ p1, p1 = pl + 1 ∧ (pl : Int) + 1 = (p1 : Int) := ⟨_, rfl, by omega⟩
          rw [← hp1] at e2 e3 e4 e5 e6
          have KF := fun w1 (hf : Fr (fun _ => False) wr w1) => mfields_any w1 hb Y sz tm n f st S i p1 (hTag x) (HM.out.fr hf (fun _ _ e => e)) e4 e3
          have hwr := wrap_i64 p1 (by omega)
          have KT := fun w => tagged_any x w hxl
          have KW := fun w => words_num x w hxl
          have hL1 : 1 ≤ hLen x := by unfold hLen; omega
          have hL2 : hLen x ≤ 33554432 := by
            have := hTag_lt x
            have := hRaw_lt x
            unfold hLen
            omega
          rw [e2] at hsc
          have HSC := hide hsc
          have HB := hide hB
          have E5 := hide e5
          have E6 := hide e6
          obtain ⟨S2, hS2⟩ : ∃ S2, S2 = fieldsS f st p1 (hTag x) S := ⟨_, rfl⟩
          rw [← hS2] at KF HSC E5 E6
          clear hI hxE hp1 hsc hB e5 e6 e2 e3 e4 hok hst hpl hS2 hxl
          go_wp2
          go_region_with (first
            | (go_at_call 55; refine (KT _).mono ?_; rintro e w4 ⟨rfl, hw⟩; replace hw := hw.symm; subst hw)
            | (go_at_call 67; refine (KF _ ?_).mono ?_; exact (Fr.refl _ _).drew; rintro e w3 ⟨rfl, Y3, M3, G3, F3⟩))
          all_goals
            have B3 := hide (HB.out.next G3 (Fr.trans ((Fr.refl _ _).drew) F3 (fun _ _ e => e)))
            have HM3 := hide M3
            clear M3 G3 F3
            go_wp2_with (go_at_call 52; refine (KW _).mono ?_; rintro e w5 ⟨rfl, hw⟩; replace hw := hw.symm; subst hw)
            refine ⟨⟨pl + hLen x, d', Y3, S2, by go_num, HM3.out, B3.out, HSC.out, e1, E5.out, E6.out⟩, ?_⟩
            simp [intOf]
            omega
        · have hpe : S.n ≤ pl := by omega
          have hfin : S = collS n f st r l := by rw [← hsc, scan_done hpe]
          obtain ⟨ao3, cap3, rfl⟩ := hI.a.ov.shape
          have HB := hide hB
          have HFIN := hide hfin
          clear hI hsc hB hok hpl hfin hd
          go_wp2
          go_ret
          refine ⟨gm, Y, rfl, HB.out.ge, HB.out.row.congr HMF.out, HB.out.ng, ?_, HB.out.grows, HB.out.fr⟩
          rw [← HFIN.out]
          exact HM.out

end Go.Proofs.Ytfeofdeffmnbkaa
