/-
  What is proved here: the document's own rules on the operands of OpClosure and OpPrim (tandemref11.own).
-/
import Derived.Test.YtmogglmofbbjlaaKRefB
namespace Go.Proofs.Ytmogglmofbbjlaa
open Go Go.RowKit

theorem heap_alloc_at (w : World) (o : Obj) {g : Nat} (hg : w.heap.size = g) : (w.alloc o).heap[g]? = some o := by
  subst hg
  exact heap_alloc_new w o
theorem size_two (w : World) (o o' : Obj) : ((w.alloc o).alloc o').heap.size = w.heap.size + 1 + 1 := by simp
theorem box_two (w : World) (o o2 : Obj) (c : Array Value) (T : TypeId) (i : Nat) {v : Value} (h : c[i]? = some v) : (((w.alloc o).alloc (.cells c T)).alloc o2).cell? ⟨w.heap.size + 1, i, none⟩ = some v := by
  have e : (w.alloc o).heap.size = w.heap.size + 1 := by simp
  refine cell_row (c := c) (T := T) ?_ h
  rw [← e]
  exact (heap_alloc_old _ _ (by simp)).trans (heap_alloc_new (w.alloc o) _)
set_option maxRecDepth 20000 in
set_option maxHeartbeats 2000000 in
theorem rown_10 (w : World) (so : Option Addr) (np sc : Nat) (fr : Nat → Int) (p : PR) (q : Hd) (a b : Int) (_hfr : FreesAt w so np fr) (_hs1 : np ≤ sc) (_hs2 : sc ≤ 9223372036854775807) (_hpb : PB p q) (_hb1 : -9223372036854775808 ≤ b) (_hb2 : b ≤ 9223372036854775807) :
    Calls Try.prog 28 #[.slice so np sc, .agg #[.string q.nm, .int .i64 p.args, .int .i64 p.free, .bool p.rest, .slice q.co p.len q.cc, .slice q.ka p.nc q.kc, .slice q.na p.nn q.nc], .agg #[.int .i64 10, .int .i64 a, .int .i64 b]] w fun e w' => e = .returned (.int .i64 (wrongM np fr p 10 a b : Int)) ∧ Fr (fun _ => False) w w' := by
  have HW := hide (wrongM_at np fr p 10 a b (by omega) (by omega))
  rw [show (((10 : Nat) : Int)) = 10 from rfl] at HW
  generalize wrongM np fr p 10 a b = R at *
  clear _hpb
  obtain ⟨ta, hta⟩ : ∃ ta, isIn a 0 ((np : Int) - 1) = ta := ⟨_, rfl⟩
  obtain ⟨tb, htb⟩ : ∃ tb, isIn b 0 (65 - 1) = tb := ⟨_, rfl⟩
  have HTa := hide hta
  have HTb := hide htb
  have HRa : Hid (thr np p 5 a = ta) := hta
  have HRb : Hid (thr np p 8 b = tb) := htb
  cases ta
  · clear hta htb _hfr
    go_enter Try.func28, Try.ntmps28
    go_wp2_with (first
      | (go_at_call 37; refine (rnamed_any 10 _ (by omega) (by omega)).mono ?_; rintro e w' ⟨rfl, hw'⟩; replace hw' := hw'.symm; subst hw')
      | (go_at_call 19; refine (rin_any _ _ _).mono ?_; rintro e w' ⟨rfl, hw'⟩; replace hw' := hw'.symm; subst hw'; first | rw [HTa.out] | rw [HTb.out]))
    go_ret
    exact ⟨retI (by rw [HW.out]; simp [nA, nB, HRa.out]), (by repeat (first | exact Fr.refl _ _ | apply Fr.alloc | apply Fr.drew | apply Fr.drewN))⟩
  · cases tb
    · clear hta htb _hfr
      go_enter Try.func28, Try.ntmps28
      go_wp2_with (first
        | (go_at_call 37; refine (rnamed_any 10 _ (by omega) (by omega)).mono ?_; rintro e w' ⟨rfl, hw'⟩; replace hw' := hw'.symm; subst hw')
        | (go_at_call 19; refine (rin_any _ _ _).mono ?_; rintro e w' ⟨rfl, hw'⟩; replace hw' := hw'.symm; subst hw'; first | rw [HTa.out] | rw [HTb.out]))
      go_ret
      exact ⟨retI (by rw [HW.out]; simp [nA, nB, HRa.out, HRb.out]), (by repeat (first | exact Fr.refl _ _ | apply Fr.alloc | apply Fr.drew | apply Fr.drewN))⟩
    · have ha2 : 0 ≤ a ∧ a ≤ (np : Int) - 1 := by simpa [isIn] using hta
      obtain ⟨j, rfl⟩ : ∃ j : Nat, a = (j : Int) := ⟨a.toNat, by omega⟩
      have hj : j < np := by omega
      rcases _hfr with e | ⟨g, off, rfl, hc⟩
      · omega
      have f0 := hc j hj
      have hg : g < w.heap.size := World.block_lt_of_cell? w _ f0
      clear hc ha2 hta htb
      by_cases hfb : fr j = b
      · have nf : (fr j != fr j) = false := by simp
        subst hfb
        go_enter Try.func28, Try.ntmps28
        go_wp2_with (first
          | (go_at_call 37; refine (rnamed_any 10 _ (by omega) (by omega)).mono ?_; rintro e w' ⟨rfl, hw'⟩; replace hw' := hw'.symm; subst hw')
          | (go_at_call 19; refine (rin_any _ _ _).mono ?_; rintro e w' ⟨rfl, hw'⟩; replace hw' := hw'.symm; subst hw'; first | rw [HTa.out] | rw [HTb.out]))
        go_quiet (fail)
        go_wp2
        go_ret
        exact ⟨retI (by rw [HW.out]; simp [nA, nB, HRa.out, HRb.out]), (by repeat (first | exact Fr.refl _ _ | apply Fr.alloc | apply Fr.drew | apply Fr.drewN))⟩
      · have nf : (fr j != b) = true := by simpa using hfb
        have HF := hide hfb
        clear hfb
        go_enter Try.func28, Try.ntmps28
        go_wp2_with (first
          | (go_at_call 37; refine (rnamed_any 10 _ (by omega) (by omega)).mono ?_; rintro e w' ⟨rfl, hw'⟩; replace hw' := hw'.symm; subst hw')
          | (go_at_call 19; refine (rin_any _ _ _).mono ?_; rintro e w' ⟨rfl, hw'⟩; replace hw' := hw'.symm; subst hw'; first | rw [HTa.out] | rw [HTb.out]))
        go_quiet (fail)
        go_wp2
        go_ret
        exact ⟨retI (by rw [HW.out]; simp [nA, nB, HRa.out, HRb.out, HF.out]), (by repeat (first | exact Fr.refl _ _ | apply Fr.alloc | apply Fr.drew | apply Fr.drewN))⟩

set_option maxRecDepth 20000 in
set_option maxHeartbeats 2000000 in
theorem rown_16 (w : World) (so : Option Addr) (np sc : Nat) (fr : Nat → Int) (p : PR) (q : Hd) (a b : Int) (_hfr : FreesAt w so np fr) (_hs1 : np ≤ sc) (_hs2 : sc ≤ 9223372036854775807) (_hpb : PB p q) (_hb1 : -9223372036854775808 ≤ b) (_hb2 : b ≤ 9223372036854775807) :
    Calls Try.prog 28 #[.slice so np sc, .agg #[.string q.nm, .int .i64 p.args, .int .i64 p.free, .bool p.rest, .slice q.co p.len q.cc, .slice q.ka p.nc q.kc, .slice q.na p.nn q.nc], .agg #[.int .i64 16, .int .i64 a, .int .i64 b]] w fun e w' => e = .returned (.int .i64 (wrongM np fr p 16 a b : Int)) ∧ Fr (fun _ => False) w w' := by
  have HW := hide (wrongM_at np fr p 16 a b (by omega) (by omega))
  rw [show (((16 : Nat) : Int)) = 16 from rfl] at HW
  generalize wrongM np fr p 16 a b = R at *
  clear _hpb _hfr
  obtain ⟨ta, hta⟩ : ∃ ta, isIn a 0 (92 - 1) = ta := ⟨_, rfl⟩
  have HTa := hide hta
  have HRa : Hid (thr np p 6 a = ta) := hta
  have HRb : Hid (thr np p 10 b = true) := rfl
  cases ta
  · clear hta
    go_enter Try.func28, Try.ntmps28
    go_wp2_with (first
      | (go_at_call 37; refine (rnamed_any 16 _ (by omega) (by omega)).mono ?_; rintro e w' ⟨rfl, hw'⟩; replace hw' := hw'.symm; subst hw')
      | (go_at_call 19; refine (rin_any _ _ _).mono ?_; rintro e w' ⟨rfl, hw'⟩; replace hw' := hw'.symm; subst hw'; rw [HTa.out])
      | (go_at_call 21; refine (prims_any _).mono ?_; rintro e w5 ⟨rfl, hw5⟩; have b5 : w5.heap[w.heap.size + 1 + 1]? = some (.cells cP 79 (0, 0)) := (by rw [hw5]; exact heap_alloc_at ((w.alloc _).alloc _) _ (by rw [size_two])); have F5 : Fr (fun _ => False) w w5 := (by rw [hw5]; exact (((Fr.refl _ _).alloc _).alloc _).alloc _); have j1 : w5.cell? ⟨w.heap.size + 1, 1, none⟩ = some (.int .i64 a) := (by rw [hw5]; exact box_two _ _ _ _ _ _ rfl); have j2 : w5.cell? ⟨w.heap.size + 1, 2, none⟩ = some (.int .i64 b) := (by rw [hw5]; exact box_two _ _ _ _ _ _ rfl); have HB5 := hide b5; have HF5 := hide F5; clear b5 F5 hw5))
    go_ret
    exact ⟨retI (by rw [HW.out]; simp [nA, nB, HRa.out]), Fr.trans (S := fun _ => False) HF5.out (by repeat (first | exact Fr.refl _ _ | apply Fr.alloc | apply Fr.drew | apply Fr.drewN)) (fun _ _ e => e)⟩
  · have ha2 : 0 ≤ a ∧ a ≤ 91 := by simpa [isIn] using hta
    obtain ⟨j, rfl⟩ : ∃ j : Nat, a = (j : Int) := ⟨a.toNat, by omega⟩
    have hj : j < 92 := by omega
    obtain ⟨-, e1, e2⟩ := cP_at hj
    obtain ⟨B1, B2, B3, B4⟩ := pB_at hj
    have hK : takesM (j : Int) b = (decide ((j : Int) < 85) && (decide (pLeast j ≤ b) && (decide (b ≤ pMost j) || decide (pMost j = -1)))) := rfl
    clear hta ha2
    generalize pLeast j = L at *
    generalize pMost j = M at *
    by_cases h85 : j < 85
    · have g85 : decide ((85 : Int) ≤ (j : Int)) = false := decide_eq_false (by omega)
      have g85n : decide (85 ≤ j) = false := decide_eq_false (by omega)
      by_cases hL : b < L
      · have gL : decide (b < L) = true := decide_eq_true hL
        have HK : Hid (takesM (j : Int) b = false) := by
          unfold Hid
          rw [hK, decide_eq_false (by omega : ¬ L ≤ b)]
          simp
        clear hK hL
        go_enter Try.func28, Try.ntmps28
        go_wp2_with (first
          | (go_at_call 37; refine (rnamed_any 16 _ (by omega) (by omega)).mono ?_; rintro e w' ⟨rfl, hw'⟩; replace hw' := hw'.symm; subst hw')
          | (go_at_call 19; refine (rin_any _ _ _).mono ?_; rintro e w' ⟨rfl, hw'⟩; replace hw' := hw'.symm; subst hw'; rw [HTa.out])
          | (go_at_call 21; refine (prims_any _).mono ?_; rintro e w5 ⟨rfl, hw5⟩; have b5 : w5.heap[w.heap.size + 1 + 1]? = some (.cells cP 79 (0, 0)) := (by rw [hw5]; exact heap_alloc_at ((w.alloc _).alloc _) _ (by rw [size_two])); have F5 : Fr (fun _ => False) w w5 := (by rw [hw5]; exact (((Fr.refl _ _).alloc _).alloc _).alloc _); have j1 : w5.cell? ⟨w.heap.size + 1, 1, none⟩ = some (.int .i64 (j : Int)) := (by rw [hw5]; exact box_two _ _ _ _ _ _ rfl); have j2 : w5.cell? ⟨w.heap.size + 1, 2, none⟩ = some (.int .i64 b) := (by rw [hw5]; exact box_two _ _ _ _ _ _ rfl); have p1 := cell_row b5 e1; have p2 := cell_row b5 e2; have hlt5 : w.heap.size + 1 + 1 < w5.heap.size := (Array.getElem?_eq_some_iff.1 b5).1; have HB5 := hide b5; have HF5 := hide F5; clear b5 F5 hw5))
        go_quiet (fail)
        go_wp2
        go_ret
        exact ⟨retI (by rw [HW.out]; simp [nA, nB, HRa.out, HRb.out, HK.out]), Fr.trans (S := fun _ => False) HF5.out (by repeat (first | exact Fr.refl _ _ | apply Fr.alloc | apply Fr.drew | apply Fr.drewN)) (fun _ _ e => e)⟩
      · have gL : decide (b < L) = false := decide_eq_false hL
        by_cases hM : 0 ≤ M
        · have gM : decide (0 ≤ M) = true := decide_eq_true hM
          by_cases hbM : M < b
          · have gb : decide (M < b) = true := decide_eq_true hbM
            have HK : Hid (takesM (j : Int) b = false) := by
              unfold Hid
              rw [hK, decide_eq_false (by omega : ¬ b ≤ M), decide_eq_false (by omega : ¬ M = -1)]
              simp
            clear hK hL hM hbM
            go_enter Try.func28, Try.ntmps28
            go_wp2_with (first
              | (go_at_call 37; refine (rnamed_any 16 _ (by omega) (by omega)).mono ?_; rintro e w' ⟨rfl, hw'⟩; replace hw' := hw'.symm; subst hw')
              | (go_at_call 19; refine (rin_any _ _ _).mono ?_; rintro e w' ⟨rfl, hw'⟩; replace hw' := hw'.symm; subst hw'; rw [HTa.out])
              | (go_at_call 21; refine (prims_any _).mono ?_; rintro e w5 ⟨rfl, hw5⟩; have b5 : w5.heap[w.heap.size + 1 + 1]? = some (.cells cP 79 (0, 0)) := (by rw [hw5]; exact heap_alloc_at ((w.alloc _).alloc _) _ (by rw [size_two])); have F5 : Fr (fun _ => False) w w5 := (by rw [hw5]; exact (((Fr.refl _ _).alloc _).alloc _).alloc _); have j1 : w5.cell? ⟨w.heap.size + 1, 1, none⟩ = some (.int .i64 (j : Int)) := (by rw [hw5]; exact box_two _ _ _ _ _ _ rfl); have j2 : w5.cell? ⟨w.heap.size + 1, 2, none⟩ = some (.int .i64 b) := (by rw [hw5]; exact box_two _ _ _ _ _ _ rfl); have p1 := cell_row b5 e1; have p2 := cell_row b5 e2; have hlt5 : w.heap.size + 1 + 1 < w5.heap.size := (Array.getElem?_eq_some_iff.1 b5).1; have HB5 := hide b5; have HF5 := hide F5; clear b5 F5 hw5))
            go_quiet (fail)
            go_wp2
            go_ret
            exact ⟨retI (by rw [HW.out]; simp [nA, nB, HRa.out, HRb.out, HK.out]), Fr.trans (S := fun _ => False) HF5.out (by repeat (first | exact Fr.refl _ _ | apply Fr.alloc | apply Fr.drew | apply Fr.drewN)) (fun _ _ e => e)⟩
          · have gb : decide (M < b) = false := decide_eq_false hbM
            have HK : Hid (takesM (j : Int) b = true) := by
              unfold Hid
              rw [hK, decide_eq_true (by omega : b ≤ M), decide_eq_true (by omega : (j : Int) < 85), decide_eq_true (by omega : L ≤ b)]
              simp
            clear hK hL hM hbM
            go_enter Try.func28, Try.ntmps28
            go_wp2_with (first
              | (go_at_call 37; refine (rnamed_any 16 _ (by omega) (by omega)).mono ?_; rintro e w' ⟨rfl, hw'⟩; replace hw' := hw'.symm; subst hw')
              | (go_at_call 19; refine (rin_any _ _ _).mono ?_; rintro e w' ⟨rfl, hw'⟩; replace hw' := hw'.symm; subst hw'; rw [HTa.out])
              | (go_at_call 21; refine (prims_any _).mono ?_; rintro e w5 ⟨rfl, hw5⟩; have b5 : w5.heap[w.heap.size + 1 + 1]? = some (.cells cP 79 (0, 0)) := (by rw [hw5]; exact heap_alloc_at ((w.alloc _).alloc _) _ (by rw [size_two])); have F5 : Fr (fun _ => False) w w5 := (by rw [hw5]; exact (((Fr.refl _ _).alloc _).alloc _).alloc _); have j1 : w5.cell? ⟨w.heap.size + 1, 1, none⟩ = some (.int .i64 (j : Int)) := (by rw [hw5]; exact box_two _ _ _ _ _ _ rfl); have j2 : w5.cell? ⟨w.heap.size + 1, 2, none⟩ = some (.int .i64 b) := (by rw [hw5]; exact box_two _ _ _ _ _ _ rfl); have p1 := cell_row b5 e1; have p2 := cell_row b5 e2; have hlt5 : w.heap.size + 1 + 1 < w5.heap.size := (Array.getElem?_eq_some_iff.1 b5).1; have HB5 := hide b5; have HF5 := hide F5; clear b5 F5 hw5))
            go_quiet (fail)
            go_wp2
            go_ret
            exact ⟨retI (by rw [HW.out]; simp [nA, nB, HRa.out, HRb.out, HK.out]), Fr.trans (S := fun _ => False) HF5.out (by repeat (first | exact Fr.refl _ _ | apply Fr.alloc | apply Fr.drew | apply Fr.drewN)) (fun _ _ e => e)⟩
        · have gM : decide (0 ≤ M) = false := decide_eq_false hM
          have HK : Hid (takesM (j : Int) b = true) := by
            unfold Hid
            rw [hK, decide_eq_true (by omega : M = -1), decide_eq_true (by omega : (j : Int) < 85), decide_eq_true (by omega : L ≤ b)]
            simp
          clear hK hL hM
          go_enter Try.func28, Try.ntmps28
          go_wp2_with (first
            | (go_at_call 37; refine (rnamed_any 16 _ (by omega) (by omega)).mono ?_; rintro e w' ⟨rfl, hw'⟩; replace hw' := hw'.symm; subst hw')
            | (go_at_call 19; refine (rin_any _ _ _).mono ?_; rintro e w' ⟨rfl, hw'⟩; replace hw' := hw'.symm; subst hw'; rw [HTa.out])
            | (go_at_call 21; refine (prims_any _).mono ?_; rintro e w5 ⟨rfl, hw5⟩; have b5 : w5.heap[w.heap.size + 1 + 1]? = some (.cells cP 79 (0, 0)) := (by rw [hw5]; exact heap_alloc_at ((w.alloc _).alloc _) _ (by rw [size_two])); have F5 : Fr (fun _ => False) w w5 := (by rw [hw5]; exact (((Fr.refl _ _).alloc _).alloc _).alloc _); have j1 : w5.cell? ⟨w.heap.size + 1, 1, none⟩ = some (.int .i64 (j : Int)) := (by rw [hw5]; exact box_two _ _ _ _ _ _ rfl); have j2 : w5.cell? ⟨w.heap.size + 1, 2, none⟩ = some (.int .i64 b) := (by rw [hw5]; exact box_two _ _ _ _ _ _ rfl); have p1 := cell_row b5 e1; have p2 := cell_row b5 e2; have hlt5 : w.heap.size + 1 + 1 < w5.heap.size := (Array.getElem?_eq_some_iff.1 b5).1; have HB5 := hide b5; have HF5 := hide F5; clear b5 F5 hw5))
          go_quiet (fail)
          go_wp2
          go_ret
          exact ⟨retI (by rw [HW.out]; simp [nA, nB, HRa.out, HRb.out, HK.out]), Fr.trans (S := fun _ => False) HF5.out (by repeat (first | exact Fr.refl _ _ | apply Fr.alloc | apply Fr.drew | apply Fr.drewN)) (fun _ _ e => e)⟩
    · have g85 : decide ((85 : Int) ≤ (j : Int)) = true := decide_eq_true (by omega)
      have g85n : decide (85 ≤ j) = true := decide_eq_true (by omega)
      have HK : Hid (takesM (j : Int) b = false) := by
        unfold Hid
        rw [hK, decide_eq_false (by omega : ¬ (j : Int) < 85)]
        simp
      clear hK
      go_enter Try.func28, Try.ntmps28
      go_wp2_with (first
        | (go_at_call 37; refine (rnamed_any 16 _ (by omega) (by omega)).mono ?_; rintro e w' ⟨rfl, hw'⟩; replace hw' := hw'.symm; subst hw')
        | (go_at_call 19; refine (rin_any _ _ _).mono ?_; rintro e w' ⟨rfl, hw'⟩; replace hw' := hw'.symm; subst hw'; rw [HTa.out])
        | (go_at_call 21; refine (prims_any _).mono ?_; rintro e w5 ⟨rfl, hw5⟩; have b5 : w5.heap[w.heap.size + 1 + 1]? = some (.cells cP 79 (0, 0)) := (by rw [hw5]; exact heap_alloc_at ((w.alloc _).alloc _) _ (by rw [size_two])); have F5 : Fr (fun _ => False) w w5 := (by rw [hw5]; exact (((Fr.refl _ _).alloc _).alloc _).alloc _); have j1 : w5.cell? ⟨w.heap.size + 1, 1, none⟩ = some (.int .i64 (j : Int)) := (by rw [hw5]; exact box_two _ _ _ _ _ _ rfl); have j2 : w5.cell? ⟨w.heap.size + 1, 2, none⟩ = some (.int .i64 b) := (by rw [hw5]; exact box_two _ _ _ _ _ _ rfl); have p1 := cell_row b5 e1; have p2 := cell_row b5 e2; have hlt5 : w.heap.size + 1 + 1 < w5.heap.size := (Array.getElem?_eq_some_iff.1 b5).1; have HB5 := hide b5; have HF5 := hide F5; clear b5 F5 hw5))
      go_quiet (fail)
      go_wp2
      go_ret
      exact ⟨retI (by rw [HW.out]; simp [nA, nB, HRa.out, HRb.out, HK.out]), Fr.trans (S := fun _ => False) HF5.out (by repeat (first | exact Fr.refl _ _ | apply Fr.alloc | apply Fr.drew | apply Fr.drewN)) (fun _ _ e => e)⟩

end Go.Proofs.Ytmogglmofbbjlaa
