/-
  What is proved here: the walk of package value's Keep.
-/
import Derived.Deep.RegionHeld3
import Derived.Test.YtchdfenickjiiaaVKeep
namespace Go.Proofs.Ytchdfenickjiiaa
open Go Go.RowKit

/-- What Keep leaves. -/
structure Kept (w w' : World) (sb hb : Nat) (X X2 : Nat → Prop) (vS : Value) (mb m : Nat) (sw : Nat → Nat) (nm : Nat → ByteArray) (sz : Nat) (tm : Int) (st : Nat → Bool) (Z : MS) : Prop where
  S : StoreAt w' sb hb X2 vS mb (tm + 1) sz (tm + 1) Z.n Z.f Z.st
  words : Own .u64 22 w' 0 vS m (fun k => mvF st Z (sw k))
  vX : ∀ g, vS.ownBlock = some g → ¬ X2 g ∧ g ≠ sb ∧ g ≠ mb
  map : ∃ D : DataW Unit, w'.ownsMap Try.prog 9 (plainElem Try.prog 3) mb m D ∧ Knows D m nm
  F : Fr (storeX sb X vS mb) w w'
  G : Grows w.heap.size X X2

theorem Own.base_le {k : IntKind} {E : TypeId} {w : World} {base : Nat} {v : Value} {n : Nat} {f : Nat → Nat} (h : Own k E w base v n f) {g : Nat} (hg : v.ownBlock = some g) : base ≤ g := by
  rcases h with ⟨rfl, _⟩ | ⟨g', cap, rfl, hb, _⟩
  · cases hg
  · have e : g' = g := by simpa [Value.ownBlock] using hg
    omega
theorem keep_row {w : World} {g cap n : Nat} {f : Nat → Nat} {o : Obj} (h : RowAt .u64 22 w g cap n f) : ∀ i, i < n → (w.drew.alloc o).cell? ⟨g, 0 + i, none⟩ = some (.int .u64 (f i)) := fun i hi => by
  rw [Nat.zero_add]
  exact ((((Fr.refl (fun _ => False) w).drew).alloc o).cell h.lt (fun e => e)).trans (h.cell hi)

theorem keep_src {w3 : World} {gm l m : Nat} {r sw : Nat → Nat} {st : Nat → Bool} {S : MS} (h : RowAt .u64 22 w3 gm (l + m) (l + m) (fun k => mvF st S (catF l r sw k))) : ∀ i, i < m → w3.drew.cell? ⟨gm, l + i, none⟩ = some (.int .u64 (((fun k => mvF st S (sw k)) i : Nat) : Int)) := fun i hi => by
  have := h.cell (show l + i < l + m by omega)
  rw [show mvF st S (catF l r sw (l + i)) = mvF st S (sw i) by rw [catF_right]] at this
  exact this

set_option maxRecDepth 20000 in
set_option maxHeartbeats 4000000 in
theorem keep_any (w : World) (sb hb : Nat) (X : Nat → Prop) (vS : Value) (mb m : Nat) (sw : Nat → Nat) (nm : Nat → ByteArray) (sz : Nat) (tm : Int) (n : Nat) (f : Nat → Nat) (st : Nat → Bool) (h : SymIn w sb hb X vS mb m sw nm sz tm n f st) (htm1 : 0 ≤ tm) (htm2 : tm ≤ 1000000) (br l cap : Nat) (r : Nat → Nat) (hr : RowAt .u64 22 w br cap l r) (_hrb : ¬ X br)
    (hrl : ∀ i, i < l → r i < 18446744073709551616) (hswl : ∀ i, i < m → sw i < 18446744073709551616) (hl0 : 0 < l) (hm0 : 0 < m) (hl : l ≤ 1000) (hm : m ≤ 1000) (_hcap : cap ≤ 9223372036854775807) :
    Calls Try.prog 18 #[.pointer (some ⟨sb, 0, none⟩), .slice (some ⟨br, 0, none⟩) l cap] w fun e w' => ∃ v X2, e = .returned v ∧ Own .u64 22 w' w.heap.size v l (fun k => mvF st (collS n f st (catF l r sw) (l + m)) (r k)) ∧ (∀ g, v.ownBlock = some g → ¬ X2 g) ∧ Kept w w' sb hb X X2 vS mb m sw nm sz tm st (collS n f st (catF l r sw) (l + m)) := by
  obtain ⟨gv, cv, rfl, hmc, hcv, _⟩ := h.words.rd hm0
  obtain ⟨D, hmap, hD⟩ := h.map
  have hrow : RowAt .u64 22 w gv cv m sw := by
    rcases h.words with ⟨e, _⟩ | ⟨g', c', e, _, _, row⟩
    · cases e
    · cases e; exact row
  have hvX := h.vX gv rfl
  have K0 : Kp w w sb hb X gv cv m sw mb tm D := ⟨h.S.blk, hrow, hmap, Fr.refl _ _⟩
  have KK := known_same w sb hb X _ mb sz tm n f st h.S
  have hsl : sb < w.heap.size := (Array.getElem?_eq_some_iff.1 h.S.blk).1
  have hXl : ∀ k, X k → k < w.heap.size := fun k hk => h.S.H.lt hk
  have hcat : ∀ k, k < l + m → catF l r sw k < 18446744073709551616 := fun k hk => by
    unfold catF
    split
    · rename_i e; exact hrl k e
    · exact hswl _ (by omega)
  obtain ⟨S, hS⟩ : ∃ S, S = collS n f st (catF l r sw) (l + m) := ⟨_, rfl⟩
  rw [← hS]
  have HSt := hide h.S
  have HD := hide hD
  have HD0 : Hid (∃ (_ : Unit) (_ : Unit), gv < w.heap.size ∧ True) := hide ⟨(), (), hrow.lt, trivial⟩
  have HK0 := hide K0
  have HKK := hide KK
  have HR := hide hr
  have HC := hide hcat
  have HSe := hide hS
  clear h hmap hrow KK K0 hr hcat hrl hswl hS hD
  go_enter Try.func18, Try.ntmps18
  go_wp2_with (go_at_call 46; refine HKK.out.mono ?_; rintro e w1 ⟨rfl, q1, hq1⟩; have F1 : Fr (fun _ => False) w w1 := (by rw [hq1]; exact (Fr.refl _ w).drewN q1); have hz1 : Hid (w1.heap.size = w.heap.size) := hide (by rw [hq1]; rfl); clear hq1)
  have K1 := HK0.out.fr F1 (fun e => e) (fun e => e) (fun e => e) (fun _ _ e => e.elim)
  obtain ⟨c0, c1, _, _⟩ := K1.cells
  have H1 := HSt.out.H.fr F1 (fun _ _ e => e)
  have R1 : RowAt .u64 22 w1 br cap l r := HR.out.block (F1.block br HR.out.lt (fun e => e))
  have HK1 := hide K1
  have HH1 := hide H1
  have HR1 := hide R1
  clear K1 H1 R1 F1
  go_region_held3 (fun w' => w'.cell? ⟨sb, 0, none⟩ = some (.pointer (some ⟨hb, 0, none⟩)) ∧ w'.cell? ⟨sb, 1, none⟩ = some (.slice (some ⟨gv, 0, none⟩) m cv)) (go_keep)
    (first
      | (go_at_call 56; refine (concat_two (w1.drew.alloc (.cells #[.slice (some ⟨br, 0, none⟩) l cap, .slice (some ⟨gv, 0, none⟩) m cv] 35)) w1.heap.size br 0 l cap gv 0 m cv r sw (heap_alloc_new w1.drew _) (keep_row HR1.out) (keep_row HK1.out.row) hl0 hm0 (by omega) (by omega)).mono ?_; rintro e w2 ⟨g2, cp2, rfl, hg2, hcp2, row2, F2⟩; have F2' : Fr (fun _ => False) w1 w2 := Fr.trans ((Fr.refl _ w1).drew.alloc _) F2 (fun _ _ e => e); have HK2 := hide (HK1.out.fr F2' (fun e => e) (fun e => e) (fun e => e) (fun _ _ e => e.elim)); have HH2 := hide (HH1.out.fr F2' (fun _ _ e => e)); obtain ⟨c20, c21, _, _⟩ := HK2.out.cells; have hg2' : w.heap.size ≤ g2 := (by have h9 := hg2; simp at h9; have := hz1.out; omega); have HR2 := hide row2; clear F2 F2' row2 hg2)
      | (go_at_call 55; refine (collect_keep w2 hb X sz tm n f st g2 (l + m) cp2 (catF l r sw) HH2.out htm1 (by omega) HR2.out (fun e => by have := hXl _ e; omega) HC.out (by omega) hcp2).mono ?_; rw [← HSe.out]; rintro e w3 ⟨gm, X3, rfl, hgm, row3, hX3, H3, G3, F3⟩; have HK3 := hide (HK2.out.fr F3 HSt.out.sX hvX.1 HSt.out.mX (fun _ _ e => e)); obtain ⟨c30, c31, _, _⟩ := HK3.out.cells; have hgm' : w.heap.size ≤ gm := (by have := HK2.out.F.size; omega); have HR3 := hide row3; have HH3 := hide H3; have HG3 : Hid (Grows w.heap.size X X3) := hide (fun k hk => (by rcases G3 k hk with e | e; exact .inl e; exact .inr (by have := HK2.out.F.size; omega))); clear row3 H3 G3 F3 hgm))
  have hlm1 : (l : Int) ≤ (l : Int) + (m : Int) := by omega
  have hlm2 : ¬ (l + m = l) := by omega
  have hlm3 : l + m - l = m := by omega
  have hlm4 : l ≤ l + m := by omega
  have hmne : ¬ (m = 0) := by omega
  have c0' := c30
  have c1' := c31
  clear c0 c1 c20 c21 c30 c31 HK1 HH1 HR1 HK2 HH2 HR2 HK0 HKK
  have row3d : RowAt .u64 22 w3.drew gv cv m sw := HK3.out.row
  have HR3d := hide row3d
  clear row3d
  go_wp2
  go_region_held3 (fun w' => w'.cell? ⟨sb, 1, none⟩ = some (.slice (some ⟨gv, 0, none⟩) m cv)) (go_keep)
    ((refine step_copy_words (by rfl) _ _ (by rfl) gv cv m sw HR3d.out gm l m (fun k => mvF st S (sw k)) (by rfl) (by first | rfl | (simp [Act.eval, hmne]; done)) (keep_src HR3.out) ?_; intro w4 row4 F4; have HR4 := hide row4; have HF4 := hide F4; have c41 := (F4.cell (b := sb) (o := 1) (World.block_lt_of_cell? _ _ c1') (fun e => hvX.2.1 e.symm)).trans c1'; clear row4 F4))
  have hgvl : gv < w.heap.size := by
    have := HK3.out.row.lt
    obtain ⟨es, c, h1, _⟩ := HD0.out
    exact h1
  have hnX3 : ∀ k, k < w.heap.size → ¬ X k → ¬ X3 k := fun k hk hn e => by
    rcases HG3.out k e with e | e
    · exact hn e
    · omega
  have F34 : Fr (fun k => k = gv) w3 w4 := Fr.trans ((Fr.refl _ w3).drew) HF4.out (fun _ _ e => e)
  have blk4 := (F34.block sb (Array.getElem?_eq_some_iff.1 HK3.out.blk).1 (fun e => hvX.2.1 e.symm)).trans HK3.out.blk
  have H4 := HH3.out.fr F34 (fun k hk e => hnX3 gv hgvl hvX.1 (e ▸ hk))
  have c40 := cell_of_row w4 sb 0 _ _ _ blk4
  have c43 := cell_of_row w4 sb 3 _ _ _ blk4
  have z43 := frozen_of_row w4 sb 3 _ _ blk4
  have KT := times_any w4 hb X3 sz (tm + 1) _ _ _ H4
  have b5 := heap_setCell_same w4 sb 3 _ _ (.int .i64 (tm + 1)) blk4
  have F45 : Fr (fun k => k = sb) w4 (w4.setCell ⟨sb, 3, none⟩ (.int .i64 (tm + 1))) := Fr.setCell (S := fun k => k = sb) (Fr.refl _ _) (fun _ => rfl) _ _
  obtain ⟨w5, hw5⟩ : ∃ w5, w5 = w4.setCell ⟨sb, 3, none⟩ (.int .i64 (tm + 1)) := ⟨_, rfl⟩
  rw [← hw5] at b5 F45
  have F35 : Fr (fun k => k = gv ∨ k = sb) w3 w5 := Fr.trans (F34.mono (fun _ _ e => .inl e)) F45 (fun _ _ e => .inr e)
  have RM : RowAt .u64 22 w5 gm (l + m) l (fun k => mvF st S (r k)) := ((HR3.out.mono (by omega)).congr (fun k hk => by rw [catF_left hk])).block (F35.block gm HR3.out.lt (fun e => by rcases e with e | e <;> omega))
  have KC := clone_any w5 (.slice (some ⟨gm, 0, none⟩) l (l + m)) l (fun k => mvF st S (r k)) (.inr ⟨gm, l + m, rfl, Nat.zero_le _, by omega, RM⟩) (by omega) hl0
  have HKT := hide KT
  have HKC := hide KC
  have HW5 := hide hw5
  have HB5 := hide b5
  have HF35 := hide F35
  have HH4 := hide H4
  have HF45 := hide F45
  clear KT KC hw5 b5 F35 H4 F45 RM blk4 F34 c0' c1' c41
  go_wp2_with (first
    | (go_at_call 45; refine HKT.out.mono ?_; rintro e w9 ⟨rfl, hw⟩; replace hw := hw.symm; subst hw)
    | (rw [← HW5.out]; go_at_call 57; refine HKC.out.mono ?_; rintro e w6 ⟨v6, rfl, O6, F6⟩))
  go_ret
  have hsX3 : ¬ X3 sb := hnX3 sb hsl HSt.out.sX
  have hmX3 : ¬ X3 mb := hnX3 mb HSt.out.ml HSt.out.mX
  have F36 : Fr (fun k => k = gv ∨ k = sb) w3 w6 := Fr.trans HF35.out F6 (fun _ _ e => e.elim)
  have F46 : Fr (fun k => k = sb) w4 w6 := Fr.trans HF45.out F6 (fun _ _ e => e.elim)
  have s3 := HK3.out.F.size
  refine ⟨v6, X3, rfl, O6.mono (by have := HF35.out.size; omega), fun g hg e => by have h1 := O6.base_le hg; have h2 := HH4.out.lt e; have h3 := HF45.out.size; omega, ⟨(F6.block sb (Array.getElem?_eq_some_iff.1 HB5.out).1 (fun e => e)).trans HB5.out, HH4.out.fr F46 (fun k hk e => hsX3 (e ▸ hk)), hsX3, hmX3, HSt.out.ms, by have := F36.size; have := HSt.out.ml; omega⟩, ?_, fun g hg => ?_, ⟨D, ownsMap_block HK3.out.map (F36.block mb (by have := HSt.out.ml; omega) (fun e => ?_)), HD.out⟩, Fr.trans HK3.out.F F36 (fun k _ e => ?_), HG3.out⟩
  · exact .inr ⟨gv, cv, rfl, Nat.zero_le _, hcv, HR4.out.block (F46.block gv HR4.out.lt (fun e => hvX.2.1 e))⟩
  · have e : gv = g := by simpa [Value.ownBlock] using hg
    subst e
    exact ⟨hnX3 _ hgvl hvX.1, hvX.2.1, hvX.2.2⟩
  · rcases e with e | e
    · exact hvX.2.2 e.symm
    · exact HSt.out.ms e
  · rcases e with e | e
    · exact .inr (.inr (.inr (by rw [e]; rfl)))
    · exact .inr (.inl e)

end Go.Proofs.Ytchdfenickjiiaa
