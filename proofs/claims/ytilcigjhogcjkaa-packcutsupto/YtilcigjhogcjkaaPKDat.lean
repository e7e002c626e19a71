/-
  What is proved here: a writer's num (package pack): a number's sign and limbs.
-/
import Derived.Test.YtilcigjhogcjkaaPKNum
namespace Go.Proofs.Ytilcigjhogcjkaa
open Go Go.RowKit

theorem flat_take_le {α : Type} (f : α → List Nat) (L : List α) (i : Nat) : ((L.take i).flatMap f).length ≤ (L.flatMap f).length := by
  have h : L.flatMap f = (L.take i).flatMap f ++ (L.drop i).flatMap f := by rw [← List.flatMap_append, List.take_append_drop]
  rw [h, List.length_append]
  omega
theorem flat_take_succ {α : Type} (f : α → List Nat) (L : List α) (i : Nat) (hi : i < L.length) : (L.take (i + 1)).flatMap f = (L.take i).flatMap f ++ f L[i] := by
  rw [List.take_add_one, List.getElem?_eq_getElem hi, List.flatMap_append]
  simp
theorem WO.keep {B : Nat} {w w' : World} {wb : Nat} {out : List Nat} (h : WO B w wb out) (hf : Fr (fun _ => False) w w') : WO B w' wb out := by
  obtain ⟨v, hv⟩ := h
  exact ⟨v, hv.keep hf⟩
theorem up_le {w0 w : World} (h : Up w0 w) : w0.heap.size ≤ w.heap.size := h.size

set_option maxRecDepth 20000 in
set_option maxHeartbeats 1000000 in
theorem wnum_any (w0 w : World) (wb : Nat) (out : List Nat) (b : Bool) (L : List Nat) (um : Value) (hS : Sl .u32 w0 um L.length (fun i => L.getD i 0)) (hU : Up w0 w) (h : WO w0.heap.size w wb out) (hlim : ∀ i, i < L.length → L.getD i 0 < 4294967296) (T : List Nat) (hT : T = ((out ++ flgB b) ++ numB L.length) ++ L.flatMap numB) (hl : T.length ≤ 1000000000) :
    Calls Try.prog 79 #[.pointer (some ⟨wb, 0, none⟩), .agg #[.bool b, um]] w fun e w' => WEnd w0.heap.size w wb T e w' := by
  obtain ⟨ao, cap, rfl, hc1, hc2, hc3, hrd⟩ := hS
  have hlen : L.length ≤ 9223372036854775807 := by omega
  have hTl : ((out ++ flgB b) ++ numB L.length).length + (L.flatMap numB).length = T.length := by rw [hT]; exact List.length_append.symm
  have HK1 := hide (fun (W : World) (hf : Fr (fun _ => False) w W) => flag_any w0.heap.size W wb out b (h.keep hf) (by rw [List.length_append] at hTl; omega) (Nat.le_trans hU.size hf.size))
  obtain ⟨o1, ho1⟩ : ∃ o1, o1 = out ++ flgB b := ⟨_, rfl⟩
  rw [← ho1] at HK1 hT hTl
  have HK2 := hide (fun (W : World) (hw : WO w0.heap.size W wb o1) (hb : w0.heap.size ≤ W.heap.size) => number_any w0.heap.size W wb o1 L.length hw hlen (by omega) hb)
  obtain ⟨o2, ho2⟩ : ∃ o2, o2 = o1 ++ numB L.length := ⟨_, rfl⟩
  rw [← ho2] at HK2 hT hTl
  have HK3 := hide (fun (W : World) (i : Nat) (hi : i < L.length) (hw : WO w0.heap.size W wb (o2 ++ (L.take i).flatMap numB)) (hb : w0.heap.size ≤ W.heap.size) => show Calls Try.prog 40 #[.pointer (some ⟨wb, 0, none⟩), .int .i64 ((L.getD i 0 : Nat) : Int)] W fun e w' => WEnd w0.heap.size W wb (o2 ++ (L.take (i + 1)).flatMap numB) e w' by
    have e : L.getD i 0 = L[i] := by simp [List.getD_eq_getElem?_getD, hi]
    have h1 := hlim i hi
    have h2 := flat_take_le numB L (i + 1)
    rw [flat_take_succ numB L i hi, ← e] at h2
    have := number_any w0.heap.size W wb (o2 ++ (L.take i).flatMap numB) (L.getD i 0) hw (by omega) (by simp only [List.length_append] at h2 ⊢; omega) hb
    rw [List.append_assoc, e, ← flat_take_succ numB L i hi, ← e] at this
    exact this)
  have HT := hide hT
  have HU := hide hU
  have HRD := hide hrd
  clear h hT hl hTl ho1 ho2 hU hrd
  go_enter Try.func79, Try.ntmps79
  go_wp2_with (first
    | (go_at_call 55; refine (HK1.out _ ((Fr.refl _ _).alloc _)).mono ?_; rintro e1 w1 ⟨rfl, hw1, F1⟩; have b1 := F1.kt w.heap.size _ _ _ (heap_alloc_new w _) (by decide) (by decide); have y1 : w1.cell? ⟨w.heap.size, 1, none⟩ = some (.slice ao L.length cap) := (by rw [cell_of_row w1 _ 1 _ _ _ b1]; rfl); have HW1 := hide hw1; have HF1 := hide ((FW.of (B := w0.heap.size) ((Fr.refl _ w).alloc _)).trans F1); have HB1 := hide b1; clear hw1 F1 b1)
    | (go_at_call 40; refine (HK2.out _ HW1.out (Nat.le_trans HU.out.size HF1.out.fr.size)).mono ?_; rintro e2 w2 ⟨rfl, hw2, F2⟩; have b2 := F2.kt w.heap.size _ _ _ HB1.out (by decide) (by decide); have y2 : w2.cell? ⟨w.heap.size, 1, none⟩ = some (.slice ao L.length cap) := (by rw [cell_of_row w2 _ 1 _ _ _ b2]; rfl); have HW2 := hide hw2; have HF2 := hide (HF1.out.trans F2); clear hw2 F2 b2))
  clear y1 HB1 HW1 HF1 HK1 HK2
  go_loopw [18] (fun u wr => ∃ i : Nat, u = .int .i64 (i : Int) ∧ i ≤ L.length ∧ WO w0.heap.size wr wb (o2 ++ (L.take i).flatMap numB) ∧ FW w0.heap.size w wr) (fun u _ => L.length - (intOf u).toNat)
  case atStart => exact ⟨0, rfl, Nat.zero_le _, by simpa using HW2.out, HF2.out⟩
  case round =>
    clear HW2 HF2 y2
    obtain ⟨i, rfl, hi, hW, hF⟩ := hrel
    by_cases hil : i < L.length
    · obtain ⟨g, off, ea, hc⟩ : ∃ g off, ao = some ⟨g, off, none⟩ ∧ wr.cell? ⟨g, off + i, none⟩ = some (.int .u32 ((L.getD i 0 : Nat) : Int)) := by
        rcases HRD.out with e | ⟨g, off, ea, hc⟩
        · omega
        · have h0 := hc i hil
          exact ⟨g, off, ea, (World.cell?_of_block ((hF.up HU.out).block g (World.block_lt_of_cell? w0 _ h0))).trans h0⟩
      subst ea
      have hx := hlim i hil
      have HK := hide (HK3.out wr i hil hW (Nat.le_trans HU.out.size hF.fr.size))
      have HF := hide hF
      clear hW hF
      generalize L.getD i 0 = x at *
      go_wp2_with (go_at_call 40; refine HK.out.mono ?_; rintro e3 w3 ⟨rfl, hw3, F3⟩)
      exact ⟨⟨i + 1, by go_num, hil, hw3, HF.out.trans F3⟩, by simp [intOf]; omega⟩
    · have e : i = L.length := by omega
      subst e
      rw [List.take_length] at hW
      have HW := hide hW
      have HF := hide hF
      have hil' : ¬ ((L.length : Int) < (L.length : Int)) := by omega
      clear hW hF hil
      go_wp2
      exact bodyPost_end (results_none rfl _ _ _) rfl ⟨rfl, by rw [HT.out]; exact HW.out, HF.out⟩

end Go.Proofs.Ytilcigjhogcjkaa
