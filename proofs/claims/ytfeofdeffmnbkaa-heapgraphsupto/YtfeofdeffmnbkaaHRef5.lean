/-
  What is proved here: the document's own heap: an object that is laid.
-/
import Derived.Test.YtfeofdeffmnbkaaHRef4
namespace Go.Proofs.Ytfeofdeffmnbkaa
open Go Go.RowKit

/-- A new place at the end of the list. -/
theorem heads_more {hn n : Nat} {hd : Nat → Nat} {st : Nat → Bool} (h : ∀ p, st p = true ↔ ∃ k, k < hn ∧ hd k = p) : ∀ p, also st n p = true ↔ ∃ k, k < hn + 1 ∧ upd hd hn n k = p := fun p => by
  constructor
  · intro e
    by_cases c : p = n
    · exact ⟨hn, by omega, by rw [upd_same, c]⟩
    · rw [also_old c] at e
      obtain ⟨k, hk, hkE⟩ := (h p).1 e
      exact ⟨k, by omega, by rw [upd_other (by omega)]; exact hkE⟩
  · rintro ⟨k, hk, hkE⟩
    by_cases c : k = hn
    · rw [c, upd_same] at hkE
      rw [← hkE]
      exact also_new _ _
    · rw [upd_other c] at hkE
      have := (h p).2 ⟨k, by omega, hkE⟩
      unfold also
      rw [this]
      rfl
theorem inc_more {hn n : Nat} {hd : Nat → Nat} (hi : ∀ i j, i < j → j < hn → hd i < hd j) (hl : ∀ k, k < hn → hd k < n) : ∀ i j, i < j → j < hn + 1 → upd hd hn n i < upd hd hn n j := fun i j h1 h2 => by
  by_cases c : j = hn
  · rw [c, upd_same, upd_other (by omega)]
    exact hl i (by omega)
  · rw [upd_other (by omega), upd_other (by omega)]
    exact hi i j h1 (by omega)

theorem or_head (k t r : Nat) (hk : k ≤ 63) (ht : t ≤ 1048576) (hr : r ≤ 1048576) : bits BinOp.or IntKind.u64 (bits BinOp.or IntKind.u64 (bits BinOp.or IntKind.u64 ((r : Int) * 4294967296) ((t : Int) * 256)) ((k : Int) * 4)) 3 = (hOf k t r : Int) := by
  have e1 : bits BinOp.or IntKind.u64 ((r : Int) * 4294967296) ((t : Int) * 256) = ((4294967296 * r + 256 * t : Nat) : Int) := by
    rw [show (r : Int) * 4294967296 = ((4294967296 * r : Nat) : Int) by omega, show (t : Int) * 256 = ((256 * t : Nat) : Int) by omega, u64_or_nat _ _ (by omega) (by omega), nat_join 32 _ _ (by omega) (by omega)]
  have e2 : bits BinOp.or IntKind.u64 ((4294967296 * r + 256 * t : Nat) : Int) ((k : Int) * 4) = ((4294967296 * r + 256 * t + 4 * k : Nat) : Int) := by
    rw [show (k : Int) * 4 = ((4 * k : Nat) : Int) by omega, u64_or_nat _ _ (by omega) (by omega), nat_join 8 _ _ (by omega) (by omega)]
  have e3 : bits BinOp.or IntKind.u64 ((4294967296 * r + 256 * t + 4 * k : Nat) : Int) 3 = ((4294967296 * r + 256 * t + 4 * k + 3 : Nat) : Int) := by
    rw [show (3 : Int) = ((3 : Nat) : Int) from rfl, u64_or_nat _ _ (by omega) (by omega), nat_join 2 _ _ (by omega) (by omega)]
  rw [e1, e2, e3]
  unfold hOf
  omega

theorem retT {a b : Int} {x : Value} (h : a = b) : Ending.returned (.tuple #[.int .u64 a, x]) = .returned (.tuple #[.int .u64 b, x]) := by rw [h]
theorem set_cells (w : World) (a : Addr) (u v : Value) (E : TypeId) : ∀ j z, [v][j]? = some z → ((w.setCell a u).alloc (.cells #[v] E)).cell? ((⟨w.heap.size, 0, none⟩ : Addr).add j) = some z := by
  have h : (w.setCell a u).heap.size = w.heap.size := by simp [World.setCell]
  have := hcells_one (w.setCell a u) v E
  rw [h] at this
  exact this

set_option maxRecDepth 20000 in
set_option maxHeartbeats 8000000 in
theorem ralloc_yes (w : World) (rb : Nat) (Y : Nat → Prop) (sz : Nat) (tm : Int) (n : Nat) (f : Nat → Nat) (st : Nat → Bool) (k t r : Nat) (h : RefAt w rb Y sz tm n f st) (hk1 : 1 ≤ k) (hk : k ≤ 63) (ht : t ≤ 1048576) (hr : r ≤ 1048576) (hroom : n + 1 + t + r ≤ sz) :
    Calls Try.prog 36 #[.pointer (some ⟨rb, 0, none⟩), .int .i64 (k : Int), .int .i64 (t : Int), .int .i64 (r : Int)] w fun e w' => e = .returned (.tuple #[.int .u64 ((4 * n : Nat) : Int), .bool true]) ∧ ∃ Y2, RefAt w' rb Y2 sz tm (n + 1 + t + r) (laid f n (hOf k t r)) (also st n) ∧ Grows w.heap.size Y Y2 ∧ Fr Y w w' := by
  obtain ⟨iW, hiW, hz0, hz1, hz2⟩ := info_parts infoW
  obtain ⟨iN, hiN, hy0, hy1, hy2⟩ := info_parts infoN
  obtain ⟨vW, vH, hn, hd, h⟩ := h
  have hc0 := h.cells.1
  have hc1 := h.cells.2.1
  have hc2 := h.cells.2.2.1
  have hnz := h.nz
  have hz := h.z
  have hhn := h.hnl
  have hM := h.mem
  have HI := hide h
  obtain ⟨aoW, capW, rfl⟩ := h.oW.shape
  obtain ⟨aoH, capH, rfl⟩ := h.oH.shape
  have hownH := h.oH.row
  have hwr : ∀ a : Int, 0 ≤ a → a ≤ 33554432 → IntKind.i64.wrap a = a := fun a a0 a1 => by
    simp only [IntKind.wrap, IntKind.bits, IntKind.signed]
    simp
    omega
  have hw1 := hwr ((n : Int) + 1) (by omega) (by omega)
  have hw2 := hwr ((n : Int) + 1 + (t : Int)) (by omega) (by omega)
  have hw3 := hwr ((n : Int) + 1 + (t : Int) + (r : Int)) (by omega) (by omega)
  have hor := or_head k t r hk ht hr
  have gA : ¬ ((k : Int) < 1) := by omega
  have gB : ¬ (63 < (k : Int)) := by omega
  have gC : ¬ ((t : Int) < 0) := by omega
  have gD : ¬ (1048576 < (t : Int)) := by omega
  have gE : ¬ ((r : Int) < 0) := by omega
  have gF : ¬ (1048576 < (r : Int)) := by omega
  have gG : ¬ ((sz : Int) < (n : Int) + 1 + (t : Int) + (r : Int)) := by omega
  have HM := hide hM
  clear hwr h hM
  go_enter Try.func36, Try.ntmps36
  go_wp2
  go_quiet (fail)
  go_wp2_with (first
    | (at_builtin; refine wpList_append_lies _ rfl _ _ 28 rfl 0 33 iW (.int .u64 0) 1 8 Try.underlying28 hiW hz0 hz1 hz2 rfl (by decide) (.slice aoW n capW) n _ rfl (hown3.alloc _) ⟨w2.heap.size, 0, none⟩ 1 1 [.int .u64 (hOf k t r : Int)] rfl rfl (set_cells _ _ _ _ _) (fun u hu => by simp at hu; subst hu; rfl) (by decide) (by unfold maxLen; omega) (by omega) (by simp) (w2.heap.size + 1) (by simp [World.setCell]) ?_; intro g4 cap4 w4 hown4 hgrow4 hat4 hlt4; have F4 := ((Fr.refl (fun k => (Value.slice aoW n capW).ownBlock = some k) (w2.setCell ⟨rb, 2, none⟩ (Value.slice (some ⟨g2, 0, none⟩) (hn + 1) cap2))).alloc _).grow hgrow4 (fun k _ e => e); have S4 := lies_stays (n := n + 1) (cap := cap4) (H := w2.heap.size) hat4 (by omega); obtain ⟨q3, q4, M4⟩ := HM2.out.growW F4 (Own.snocF hown4 (laid_head f n (hOf k t r))) (fun g hg => by rcases S4 g hg with e | e; exact .inl e; exact .inr (by simpa [World.setCell] using e)); have HM4 := hide M4; have HF4 := hide F4; have HS4 := hide S4; have c4 := M4.cells.2.1; clear M4 F4 S4 hown4 hgrow4 hat4 hlt4 hown3)
    | (at_builtin; refine wpList_append_lies _ rfl _ _ 34 rfl 0 3 iN (.int .i64 0) 1 8 Try.underlying34 hiN hy0 hy1 hy2 rfl (by decide) (.slice aoH hn capH) hn _ rfl (World.ownsRow.alloc (w := w.drewN nq) hownH _) ⟨w.heap.size, 0, none⟩ 1 1 [.int .i64 (n : Int)] rfl rfl (hcells_one (w.drewN nq) _ _) (fun u hu => by simp at hu; subst hu; rfl) (by decide) (by unfold maxLen; omega) (by omega) (by simp) (w.heap.size + 1) (by simp) ?_; intro g2 cap2 w2 hown2 hgrow2 hat2 hlt2; have F2 := ((Fr.refl (fun k => (Value.slice aoH hn capH).ownBlock = some k) (w.drewN nq)).alloc _).grow hgrow2 (fun k _ e => e); have S2 := lies_stays (n := hn + 1) (cap := cap2) (H := w.heap.size) hat2 (by omega); obtain ⟨q1, q2, M2⟩ := (HM.out.fr (S := fun _ => False) ((Fr.refl _ _).drewN nq) (fun _ _ e => e)).growH F2 (Own.snoc hown2) S2; have HM2 := hide M2; have HF2 := hide F2; have HS2 := hide S2; have c1 := M2.cells.2.1; have hown3 := (Own.congr M2.oW (f' := laid f n (hOf k t r)) fun i hi => (laid_old hi).symm).row; clear M2 F2 S2 hown2 hgrow2 hat2 hlt2))
  have hYr : Y rb := (HI.out.xs rb).2 (.inl rfl)
  have FA := hide ((Fr.trans ((Fr.refl Y w).drewN nq) HF2.out (fun k _ e => (HI.out.xs k).2 (.inr (.inr e)))).setCell (fun _ => hYr) 2 (Value.slice (some ⟨g2, 0, none⟩) (hn + 1) cap2))
  have FB := hide ((FA.out.trans HF4.out (fun k _ e => (HI.out.xs k).2 (.inr (.inl e)))).setCell (fun _ => hYr) 1 (Value.slice (some ⟨g4, 0, none⟩) (n + 1) cap4))
  have hw2s : Hid (w.heap.size ≤ w2.heap.size) := hide HF2.out.size
  have SA : Hid (Stays w.heap.size (.slice aoW n capW) (.slice (some ⟨g4, 0, none⟩) (n + 1) cap4)) := hide fun g hg => by
    rcases HS4.out g hg with e | e
    · exact .inl e
    · have := hw2s.out
      exact .inr (by omega)
  have hTg : hTag (hOf k t r) = t := hTag_of hk ht
  have HTG := hide hTg
  clear hTg hor hownH hc0 hc1 hc2 q1 q2 q3 q4 c1 c4 hYr
  go_loopw [11] (fun a wr => ∃ (j : Nat) (vR : Value), j ≤ t ∧ a = .int .i64 (j : Int) ∧ RefMem wr rb sz tm vR (n + 1 + j) (laid f n (hOf k t r)) (.slice (some ⟨g2, 0, none⟩) (hn + 1) cap2) (hn + 1) (upd hd hn n) ∧ Stays w.heap.size (.slice aoW n capW) vR ∧ Fr Y w wr) (fun a _ => t - (intOf a).toNat)
  case atStart => exact ⟨0, _, Nat.zero_le _, rfl, HM4.out, SA.out, FB.out⟩
  case round =>
    clear HM4 SA FB FA
    obtain ⟨j, vR, hj, rfl, hM, hS, hF⟩ := hrel
    have cR := hM.cells.2.1
    have hown := hM.oW.row
    have HMR := hide hM
    have HSR := hide hS
    have HFR := hide hF
    by_cases hlt : j < t
    · obtain ⟨aoR, capR, rfl⟩ := hM.oW.shape
      clear hM hS hF
      go_wp2_with (at_builtin; refine wpList_append_lies _ rfl _ _ 28 rfl 0 33 iW (.int .u64 0) 1 8 Try.underlying28 hiW hz0 hz1 hz2 rfl (by decide) (.slice aoR (n + 1 + j) capR) (n + 1 + j) _ rfl (hown.alloc _) ⟨wr.heap.size, 0, none⟩ 1 1 [.int .u64 2] rfl rfl (hcells_one _ _ _) (fun u hu => by simp at hu; subst hu; rfl) (by decide) (by unfold maxLen; omega) (by omega) (by simp) (wr.heap.size + 1) (by simp) ?_; intro g5 cap5 w5 hown5 hgrow5 hat5 hlt5; have F5 := ((Fr.refl (fun k => (Value.slice aoR (n + 1 + j) capR).ownBlock = some k) wr).alloc _).grow hgrow5 (fun k _ e => e); have S5 := lies_stays (n := n + 1 + j + 1) (cap := cap5) (H := wr.heap.size) hat5 (by omega); obtain ⟨q5, q6, M5⟩ := HMR.out.growW F5 (Own.snocF hown5 (laid_tag (by have := HTG.out; omega))) S5; have HM5 := hide M5; have HF5 := hide F5; have HS5 := hide S5; clear M5 F5 S5 hown5 hgrow5 hat5 hlt5 hown)
      refine ⟨⟨j + 1, _, by omega, by go_num, HM5.out, HSR.out.trans HS5.out HFR.out.size, (HFR.out.trans HF5.out fun i hi e => ?_).setCell (fun _ => (HI.out.xs rb).2 (.inl rfl)) _ _⟩, ?_⟩
      · rcases HSR.out i e with e | e
        · exact (HI.out.xs i).2 (.inr (.inl e))
        · omega
      · simp [intOf]
        omega
    · have hjt : t = j := by omega
      subst hjt
      obtain ⟨gR, capR, rfl, hcR1, hcR2, _⟩ := hM.oW.rd (i := 0) (by omega)
      have hrow : RowAt .u64 33 wr gR capR (n + 1 + t) (laid f n (hOf k t r)) := by
        rcases hM.oW with ⟨e, _⟩ | ⟨g', cap', e, _, _, h3⟩
        · cases e
        · cases e; exact h3
      clear hM hS hF hown
      go_wp2_with (at_builtin; refine wpList_zeros rfl _ _ rfl wr gR (n + 1 + t) capR _ hrow hcR2 r (by omega) rfl rfl ?_; intro v6 w6 O6 G6 A6; have F6 := (Fr.refl (fun k => (Value.slice (some ⟨gR, 0, none⟩) (n + 1 + t) capR).ownBlock = some k) wr).grow G6 (fun k _ e => e); have S6 : Stays wr.heap.size (.slice (some ⟨gR, 0, none⟩) (n + 1 + t) capR) v6 := (fun g hg => by rcases A6 with e | e; exact .inl (by rw [e] at hg; exact hg); exact .inr (by rw [e] at hg; cases hg; exact Nat.le_refl _)); obtain ⟨q7, q8, M6⟩ := HMR.out.growW F6 O6 S6; obtain ⟨ao6, cap6, rfl⟩ := O6.shape; have HM6 := hide M6; have HF6 := hide F6; have HS6 := hide S6; clear M6 F6 S6 O6 G6 A6 hrow)
      go_ret2
      have hN : n + 1 + t + r = n + hLen (hOf k t r) := by rw [hLen_of hk ht hr]; omega
      have hM6 := HM6.out
      have hSS := HSR.out.trans HS6.out HFR.out.size
      refine ⟨retT (by omega), fun i => i = rb ∨ (Value.slice ao6 (n + 1 + t + r) cap6).ownBlock = some i ∨ (Value.slice (some ⟨g2, 0, none⟩) (hn + 1) cap2).ownBlock = some i, ⟨_, _, _, _, hM6.blk, hM6.oW.congr (fun i hi => ?_), hM6.oH, hM6.nW, hM6.nH, hM6.nn, inc_more HI.out.inc (fun i hi => HI.out.good.lt ((HI.out.heads _).2 ⟨i, hi, rfl⟩)), heads_more HI.out.heads, by rw [hN]; exact HI.out.good.laid (hOf_mod k t r), fun i _ => laid_lt HI.out.fb (hOf_lt hk ht hr) i, by omega, by omega, hz, fun _ => Iff.rfl⟩, fun i hi => ?_, (HFR.out.trans HF6.out fun i hi e => ?_).setCell (fun _ => (HI.out.xs rb).2 (.inl rfl)) _ _⟩
      · by_cases c : i < n + 1 + t
        · rw [if_pos c]
        · rw [if_neg c]
          unfold laid
          rw [HTG.out, if_neg (by omega), if_neg (by omega), if_neg (by omega)]
      · rcases hi with e | e | e
        · exact .inl ((HI.out.xs i).2 (.inl e))
        · rcases hSS i e with e | e
          · exact .inl ((HI.out.xs i).2 (.inr (.inl e)))
          · exact .inr e
        · rcases HS2.out i e with e | e
          · exact .inl ((HI.out.xs i).2 (.inr (.inr e)))
          · exact .inr e
      · rcases HSR.out i e with e | e
        · exact (HI.out.xs i).2 (.inr (.inl e))
        · omega

end Go.Proofs.Ytfeofdeffmnbkaa
