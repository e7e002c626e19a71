/-
  What is proved here: a writer's data, rest, datum (package pack), for data of any height that may be written.
-/
import Derived.Test.YtilcigjhogcjkaaPKDat
import Derived.Test.YtilcigjhogcjkaaJC
namespace Go.Proofs.Ytilcigjhogcjkaa
open Go Go.RowKit

/-- What a writer does with one datum. -/
def DatWOK (h : Nat) : Prop := ∀ (w0 w : World) (wb : Nat) (out : List Nat) (d : Tr h) (c0 c1 c2 c3 c4 c5 c6 : Value) (dp : Nat), DatC w0 h d [c0, c1, c2, c3, c4, c5, c6] → Up w0 w → WO w0.heap.size w wb out → goodD h dp d = true → (out ++ datB h d).length ≤ 1000000000 →
  Calls Try.prog 71 #[.pointer (some ⟨wb, 0, none⟩), .agg #[c0, c1, c2, c3, c4, c5, c6]] w fun e w' => WEnd w0.heap.size w wb (out ++ datB h d) e w'
theorem up_new {w0 w w' : World} (u : Up w0 w) (h : Fr (fun _ => False) w w') : Up w0 w' := (FW.of h).up u

set_option maxRecDepth 100000 in
set_option maxHeartbeats 1000000 in
theorem wdata_of {h : Nat} (hC : DatWOK h) (w0 w : World) (wb : Nat) (out : List Nat) (I : List (Tr h)) (v : Value) (dp : Nat) (hr : RowD w0 (DatC w0 h) v I) (hU : Up w0 w) (hw : WO w0.heap.size w wb out) (hg : I.all (goodD h dp) = true) (T : List Nat) (hT : T = (out ++ numB I.length) ++ I.flatMap (datB h)) (hl : T.length ≤ 1000000000) :
    Calls Try.prog 57 #[.pointer (some ⟨wb, 0, none⟩), v] w fun e w' => WEnd w0.heap.size w wb T e w' := by
  obtain ⟨ao, cap, rfl⟩ := hr.shape
  have hIl : I.length ≤ cap ∧ cap ≤ 9223372036854775807 := by
    obtain ⟨ao', cap', e, h1, h2, -⟩ := hr
    cases e
    exact ⟨h1, h2⟩
  have hTl : (out ++ numB I.length).length + (I.flatMap (datB h)).length = T.length := by rw [hT]; exact List.length_append.symm
  have HK1 := hide (number_any w0.heap.size w wb out I.length hw (by omega) (by omega) hU.size)
  obtain ⟨o1, ho1⟩ : ∃ o1, o1 = out ++ numB I.length := ⟨_, rfl⟩
  rw [← ho1] at HK1 hT hTl
  have HK3 := hide (fun (W : World) (i : Nat) (hi : i < I.length) (c0 c1 c2 c3 c4 c5 c6 : Value) (hd : DatC w0 h I[i] [c0, c1, c2, c3, c4, c5, c6]) (hu : Up w0 W) (hw : WO w0.heap.size W wb (o1 ++ (I.take i).flatMap (datB h))) => show Calls Try.prog 71 #[.pointer (some ⟨wb, 0, none⟩), .agg #[c0, c1, c2, c3, c4, c5, c6]] W fun e w' => WEnd w0.heap.size W wb (o1 ++ (I.take (i + 1)).flatMap (datB h)) e w' by
    have h2 := flat_take_le (datB h) I (i + 1)
    rw [flat_take_succ (datB h) I i hi] at h2
    have hgi : goodD h dp I[i] = true := List.all_eq_true.1 hg _ (List.getElem_mem hi)
    have := hC w0 W wb (o1 ++ (I.take i).flatMap (datB h)) I[i] c0 c1 c2 c3 c4 c5 c6 dp hd hu hw hgi (by simp only [List.length_append] at h2 ⊢; omega)
    rw [List.append_assoc, ← flat_take_succ (datB h) I i hi] at this
    exact this)
  have HT := hide hT
  have HU := hide hU
  have HR := hide hr
  clear hw hT hl hTl ho1 hU hr hg hC
  go_enter Try.func57, Try.ntmps57
  go_wp2_with (go_at_call 40; refine HK1.out.mono ?_; rintro e1 w1 ⟨rfl, hw1, F1⟩; have HW1 := hide hw1; have HF1 := hide F1; clear hw1 F1)
  go_loopw [12] (fun u wr => ∃ i : Nat, u = .int .i64 (i : Int) ∧ i ≤ I.length ∧ WO w0.heap.size wr wb (o1 ++ (I.take i).flatMap (datB h)) ∧ FW w0.heap.size w wr) (fun u _ => I.length - (intOf u).toNat)
  case atStart => exact ⟨0, rfl, Nat.zero_le _, by simpa using HW1.out, HF1.out⟩
  case round =>
    clear HW1 HF1 HK1
    obtain ⟨i, rfl, hi, hW, hF⟩ := hrel
    by_cases hil : i < I.length
    · obtain ⟨b, off, rfl, kk, km, kb, um, kt, ui, ur, hdat, ⟨x1, x2, x3, rfl⟩, ⟨y1, y2, y3, rfl⟩, ⟨z1, z2, z3, rfl⟩, e0, e1, e2, e3, e4, e5, e6⟩ := row_cells HR.out (hF.up HU.out) hil
      have HK := hide (fun (W : World) (hf : Fr (fun _ => False) wr W) => HK3.out W i hil _ _ _ _ _ _ _ hdat (up_new (hF.up HU.out) hf) (hW.keep hf))
      have HF := hide hF
      have hkI : (i : Int) < (I.length : Int) := by omega
      clear hW hF hdat
      go_wp2_with (go_at_call 71; refine (HK.out _ ((Fr.refl _ _).alloc _)).mono ?_; rintro e9 w9 ⟨rfl, hw9, F9⟩)
      exact ⟨⟨i + 1, by go_num, hil, hw9, HF.out.trans ((FW.of ((Fr.refl _ _).alloc _)).trans F9)⟩, by simp [intOf]; omega⟩
    · have e : i = I.length := by omega
      subst e
      rw [List.take_length] at hW
      have HW := hide hW
      have HF := hide hF
      have hil' : ¬ ((I.length : Int) < (I.length : Int)) := by omega
      clear hW hF hil
      go_wp2
      exact bodyPost_end (results_none rfl _ _ _) rfl ⟨rfl, by rw [HT.out]; exact HW.out, HF.out⟩

set_option maxRecDepth 100000 in
set_option maxHeartbeats 1000000 in
theorem wrest_of {h : Nat} (hC : DatWOK h) (w0 w : World) (wb : Nat) (out : List Nat) (I : List (Tr h)) (v : Value) (dp : Nat) (hr : RowD w0 (DatC w0 h) v I) (hU : Up w0 w) (hw : WO w0.heap.size w wb out) (hg : I.all (goodD h dp) = true) (T : List Nat) (hT : T = (out ++ flgB (!I.isEmpty)) ++ I.flatMap (datB h)) (hl : T.length ≤ 1000000000) :
    Calls Try.prog 80 #[.pointer (some ⟨wb, 0, none⟩), v] w fun e w' => WEnd w0.heap.size w wb T e w' := by
  obtain ⟨ao, cap, rfl⟩ := hr.shape
  have hIl : I.length ≤ cap ∧ cap ≤ 9223372036854775807 := by
    obtain ⟨ao', cap', e, h1, h2, -⟩ := hr
    cases e
    exact ⟨h1, h2⟩
  have hTl : (out ++ flgB (!I.isEmpty)).length + (I.flatMap (datB h)).length = T.length := by rw [hT]; exact List.length_append.symm
  obtain ⟨fb, hfb⟩ : ∃ fb, fb = !I.isEmpty := ⟨_, rfl⟩
  have hd1 : decide (0 < I.length) = fb := by
    rw [hfb]
    cases I with
    | nil => rfl
    | cons a l => simp
  have hd2 : decide (0 < (I.length : Int)) = fb := by
    rw [← hd1]
    congr 1
    exact propext ⟨fun h => by omega, fun h => by omega⟩
  rw [← hfb] at hT hTl
  have HK1 := hide (flag_any w0.heap.size w wb out fb hw (Nat.le_trans (Nat.le_add_right _ _) (Nat.le_trans (Nat.le_of_eq hTl) hl)) hU.size)
  clear hfb
  obtain ⟨o1, ho1⟩ : ∃ o1, o1 = out ++ flgB fb := ⟨_, rfl⟩
  rw [← ho1] at HK1 hT hTl
  have HK3 := hide (fun (W : World) (i : Nat) (hi : i < I.length) (c0 c1 c2 c3 c4 c5 c6 : Value) (hd : DatC w0 h I[i] [c0, c1, c2, c3, c4, c5, c6]) (hu : Up w0 W) (hw : WO w0.heap.size W wb (o1 ++ (I.take i).flatMap (datB h))) => show Calls Try.prog 71 #[.pointer (some ⟨wb, 0, none⟩), .agg #[c0, c1, c2, c3, c4, c5, c6]] W fun e w' => WEnd w0.heap.size W wb (o1 ++ (I.take (i + 1)).flatMap (datB h)) e w' by
    have h2 := flat_take_le (datB h) I (i + 1)
    rw [flat_take_succ (datB h) I i hi] at h2
    have hgi : goodD h dp I[i] = true := List.all_eq_true.1 hg _ (List.getElem_mem hi)
    have := hC w0 W wb (o1 ++ (I.take i).flatMap (datB h)) I[i] c0 c1 c2 c3 c4 c5 c6 dp hd hu hw hgi (by simp only [List.length_append] at h2 ⊢; omega)
    rw [List.append_assoc, ← flat_take_succ (datB h) I i hi] at this
    exact this)
  have HT := hide hT
  have HU := hide hU
  have HR := hide hr
  clear hw hT hl hTl ho1 hU hr hg hC
  go_enter Try.func80, Try.ntmps80
  go_wp2_with (go_at_call 55; refine HK1.out.mono ?_; rintro e1 w1 ⟨rfl, hw1, F1⟩; have HW1 := hide hw1; have HF1 := hide F1; clear hw1 F1)
  go_loopw [13] (fun u wr => ∃ i : Nat, u = .int .i64 (i : Int) ∧ i ≤ I.length ∧ WO w0.heap.size wr wb (o1 ++ (I.take i).flatMap (datB h)) ∧ FW w0.heap.size w wr) (fun u _ => I.length - (intOf u).toNat)
  case atStart => exact ⟨0, rfl, Nat.zero_le _, by simpa using HW1.out, HF1.out⟩
  case round =>
    clear HW1 HF1 HK1
    obtain ⟨i, rfl, hi, hW, hF⟩ := hrel
    by_cases hil : i < I.length
    · obtain ⟨b, off, rfl, kk, km, kb, um, kt, ui, ur, hdat, ⟨x1, x2, x3, rfl⟩, ⟨y1, y2, y3, rfl⟩, ⟨z1, z2, z3, rfl⟩, e0, e1, e2, e3, e4, e5, e6⟩ := row_cells HR.out (hF.up HU.out) hil
      have HK := hide (fun (W : World) (hf : Fr (fun _ => False) wr W) => HK3.out W i hil _ _ _ _ _ _ _ hdat (up_new (hF.up HU.out) hf) (hW.keep hf))
      have HF := hide hF
      have hkI : (i : Int) < (I.length : Int) := by omega
      clear hW hF hdat
      go_wp2_with (go_at_call 71; refine (HK.out _ ((Fr.refl _ _).alloc _)).mono ?_; rintro e9 w9 ⟨rfl, hw9, F9⟩)
      exact ⟨⟨i + 1, by go_num, hil, hw9, HF.out.trans ((FW.of ((Fr.refl _ _).alloc _)).trans F9)⟩, by simp [intOf]; omega⟩
    · have e : i = I.length := by omega
      subst e
      rw [List.take_length] at hW
      have HW := hide hW
      have HF := hide hF
      have hil' : ¬ ((I.length : Int) < (I.length : Int)) := by omega
      clear hW hF hil
      go_wp2
      exact bodyPost_end (results_none rfl _ _ _) rfl ⟨rfl, by rw [HT.out]; exact HW.out, HF.out⟩

end Go.Proofs.Ytilcigjhogcjkaa
