/-
  What is proved here: slices.Concat of two lists of words that are not empty.
-/
import Derived.Test.YtchdfenickjiiaaVConc
namespace Go.Proofs.Ytchdfenickjiiaa
open Go Go.RowKit

/-- Two lists of words, one behind the other. -/
def catF (l : Nat) (r s : Nat → Nat) : Nat → Nat := fun i => if i < l then r i else s (i - l)
theorem catF_left {l i : Nat} {r s : Nat → Nat} (h : i < l) : catF l r s i = r i := by unfold catF; rw [if_pos h]
theorem catF_right {l i : Nat} {r s : Nat → Nat} : catF l r s (l + i) = s i := by unfold catF; rw [if_neg (by omega), Nat.add_sub_cancel_left]
theorem cellsOf_cat (k : IntKind) (l m : Nat) (r s : Nat → Nat) : cellsOf k r l ++ cellsOf k s m = cellsOf k (catF l r s) (l + m) := by
  apply List.ext_getElem?
  intro i
  rcases Nat.lt_or_ge i l with h | h
  · rw [List.getElem?_append_left (by rw [cellsOf_length]; exact h), cellsOf_get _ _ _ _ h, cellsOf_get _ _ _ _ (by omega), catF_left h]
  · rw [List.getElem?_append_right (by rw [cellsOf_length]; exact h), cellsOf_length]
    rcases Nat.lt_or_ge i (l + m) with h2 | h2
    · rw [cellsOf_get _ _ _ _ (by omega), cellsOf_get _ _ _ _ h2]
      unfold catF
      rw [if_neg (by omega)]
    · rw [List.getElem?_eq_none (by rw [cellsOf_length]; omega), List.getElem?_eq_none (by rw [cellsOf_length]; omega)]

/-- How far the sum has come. -/
def CcR (l m : Nat) (w wr : World) (a3 a11 : Value) : Prop := wr = w ∧ ((a3 = .int .i64 0 ∧ a11 = .int .i64 0) ∨ (a3 = .int .i64 (l : Int) ∧ a11 = .int .i64 1) ∨ (a3 = .int .i64 ((l : Int) + (m : Int)) ∧ a11 = .int .i64 2))
/-- How far the list has come. -/
def CcS (l m : Nat) (r s : Nat → Nat) (w wr : World) (a6 a27 : Value) : Prop := Fr (fun _ => False) w wr ∧ ((a27 = .int .i64 0 ∧ wr.ownsRow w.heap.size 22 1 a6 0 []) ∨ (a27 = .int .i64 1 ∧ wr.ownsRow w.heap.size 22 1 a6 l (cellsOf .u64 r l)) ∨ (a27 = .int .i64 2 ∧ wr.ownsRow w.heap.size 22 1 a6 (l + m) (cellsOf .u64 (catF l r s) (l + m))))
theorem cc_grow {w w1 w2 : World} {v : Value} {k : Nat} {xs : List Value} (hF : Fr (fun _ => False) w w1) (ho : w1.ownsRow w.heap.size 22 1 v k xs) (hg : w1.grownBy w2 v.ownBlock) : Fr (fun _ => False) w w2 :=
  hF.grow hg (fun j hj e => by
    rcases ho.2 with ⟨rfl, _⟩ | ⟨g', cap, cur, rfl, hb, _, _⟩
    · cases e
    · have : g' = j := by simpa [Value.ownBlock] using e
      omega)

set_option maxRecDepth 20000 in
set_option maxHeartbeats 2000000 in
theorem concat_two (w : World) (g2 b1 o1 l c1 b2 o2 m c2 : Nat) (r s : Nat → Nat) (h2 : w.heap[g2]? = some (.cells #[.slice (some ⟨b1, o1, none⟩) l c1, .slice (some ⟨b2, o2, none⟩) m c2] 35 (0, 0))) (hr : ∀ i, i < l → w.cell? ⟨b1, o1 + i, none⟩ = some (.int .u64 (r i))) (hs : ∀ i, i < m → w.cell? ⟨b2, o2 + i, none⟩ = some (.int .u64 (s i))) (hl0 : 0 < l) (hm0 : 0 < m) (hl : l ≤ 100000) (hm : m ≤ 100000) :
    Calls Try.prog 56 #[.slice (some ⟨g2, 0, none⟩) 2 2] w fun e w' => ∃ g cap, e = .returned (.slice (some ⟨g, 0, none⟩) (l + m) cap) ∧ w.heap.size ≤ g ∧ cap ≤ 9223372036854775807 ∧ RowAt .u64 22 w' g cap (l + m) (catF l r s) ∧ Fr (fun _ => False) w w' := by
  have d0 := cell_of_row w g2 0 _ _ _ h2
  have d1 := cell_of_row w g2 1 _ _ _ h2
  have KG := grow_nil w (l + m) (by omega) (by omega)
  obtain ⟨iW, hiW, hz0, hz1, hz2⟩ := info_parts infoW
  have HG := hide KG
  have HR := hide hr
  have HS := hide hs
  have lb1 : b1 < w.heap.size := World.block_lt_of_cell? _ _ (hr 0 hl0)
  have lb2 : b2 < w.heap.size := World.block_lt_of_cell? _ _ (hs 0 hm0)
  have lg2 : g2 < w.heap.size := (Array.getElem?_eq_some_iff.1 h2).1
  clear KG hr hs h2
  go_enter Try.func56, Try.ntmps56
  go_wp2
  go_loopw [3, 11] (fun a3 a11 wr => CcR l m w wr a3 a11) (fun _ a11 _ => 2 - (intOf a11).toNat)
  case atStart => exact ⟨rfl, .inl ⟨rfl, rfl⟩⟩
  case round =>
    obtain ⟨hw, ⟨rfl, rfl⟩ | ⟨rfl, rfl⟩ | ⟨rfl, rfl⟩⟩ := hrel
    · replace hw := hw.symm
      subst hw
      have n1 : ¬ ((l : Int) < 0) := by omega
      go_wp2
      exact ⟨⟨rfl, .inr (.inl ⟨rfl, rfl⟩)⟩, by simp [intOf]⟩
    · replace hw := hw.symm
      subst hw
      have n1 : ¬ ((l : Int) + (m : Int) < 0) := by omega
      go_wp2
      exact ⟨⟨rfl, .inr (.inr ⟨rfl, rfl⟩)⟩, by simp [intOf]⟩
    · replace hw := hw.symm
      subst hw
      go_wp2_with (go_at_call 94; refine HG.out.mono ?_; rintro e w1 ⟨g, cap, rfl, hg, hcap, hlm, row, F1⟩)
      have HS0 : Hid (CcS l m r s w w1 (.slice (some ⟨g, 0, none⟩) 0 cap) (.int .i64 0)) := hide ⟨F1, .inl ⟨rfl, Own.row (k := .u64) (f := fun _ => 0) (n := 0) (.inr ⟨g, cap, rfl, hg, hcap, row⟩)⟩⟩
      clear F1 row HG
      go_loopw [6, 27] (fun a6 a27 wx => CcS l m r s w wx a6 a27) (fun _ a27 _ => 2 - (intOf a27).toNat)
      case atStart => exact HS0.out
      case round =>
        obtain ⟨hF, ⟨rfl, ho⟩ | ⟨rfl, ho⟩ | ⟨rfl, ho⟩⟩ := hrel
        · have e0 := (hF.cell (o := 0) lg2 (fun e => e)).trans d0
          have hc : ∀ j u, (cellsOf .u64 r l)[j]? = some u → wr.cell? ((⟨b1, o1, none⟩ : Addr).add j) = some u := hcells_at (fun i hi => (hF.cell lb1 (fun e => e)).trans (HR.out i hi))
          have hs := hF.size
          have HF := hide hF
          have HO := hide ho
          clear hF ho
          go_wp2_with (at_builtin; refine wpList_append_own _ rfl _ _ 35 rfl w.heap.size 22 iW (.int .u64 0) 1 8 Try.underlying35 hiW hz0 hz1 hz2 rfl (by decide) _ _ _ rfl HO.out ⟨b1, o1, none⟩ l _ (cellsOf .u64 r l) rfl (by rw [cellsOf_length]; omega) hc (cellsOf_one _ _ _) (by unfold maxLen; omega) (by omega) hs ?_; intro v' w2 hown hgrow _; simp only [Nat.zero_add, List.nil_append] at hown; have HO2 := hide hown; have HF2 := hide (cc_grow HF.out HO.out hgrow); clear hown hgrow)
          exact ⟨⟨HF2.out, .inr (.inl ⟨rfl, HO2.out⟩)⟩, by simp [intOf]⟩
        · have e0 := (hF.cell (o := 1) lg2 (fun e => e)).trans d1
          have hc : ∀ j u, (cellsOf .u64 s m)[j]? = some u → wr.cell? ((⟨b2, o2, none⟩ : Addr).add j) = some u := hcells_at (fun i hi => (hF.cell lb2 (fun e => e)).trans (HS.out i hi))
          have hs := hF.size
          have HF := hide hF
          have HO := hide ho
          clear hF ho
          go_wp2_with (at_builtin; refine wpList_append_own _ rfl _ _ 35 rfl w.heap.size 22 iW (.int .u64 0) 1 8 Try.underlying35 hiW hz0 hz1 hz2 rfl (by decide) _ _ _ rfl HO.out ⟨b2, o2, none⟩ m _ (cellsOf .u64 s m) rfl (by rw [cellsOf_length]; omega) hc (cellsOf_one _ _ _) (by unfold maxLen; omega) (by omega) hs ?_; intro v' w2 hown hgrow _; rw [cellsOf_cat] at hown; have HO2 := hide hown; have HF2 := hide (cc_grow HF.out HO.out hgrow); clear hown hgrow)
          exact ⟨⟨HF2.out, .inr (.inr ⟨rfl, HO2.out⟩)⟩, by simp [intOf]⟩
        · obtain ⟨g', cap', rfl, hg', _⟩ := World.ownsRow.form ho (by omega)
          have hO := Own.of_row ho (fun i hi => cellsOf_get _ _ _ _ hi)
          have HF := hide hF
          have HO := hide hO
          clear hF ho hO
          go_wp2
          go_ret
          rcases HO.out with ⟨e, _⟩ | ⟨g3, cap3, e, k1, k2, k3⟩
          · cases e
          · cases e
            exact ⟨_, _, rfl, k1, k2, k3, HF.out⟩

end Go.Proofs.Ytchdfenickjiiaa
