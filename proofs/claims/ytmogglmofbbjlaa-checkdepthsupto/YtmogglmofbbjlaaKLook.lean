/-
  What is proved here: an instruction that is reached is looked at: check's look.
-/
import Derived.Test.YtmogglmofbbjlaaKGo
namespace Go.Proofs.Ytmogglmofbbjlaa
open Go Go.RowKit

theorem nX_ok : ((List.range 22).all fun k => decide (nA k ≤ 9) && (decide (nB k = 0 ∨ nB k = 8 ∨ nB k = 10) && (decide (nPop k ≤ 2) && (decide (nPush k ≤ 1) && decide (nB k = 10 → nPop k = 0 ∧ nA k = 6))))) = true := by decide +kernel
theorem nX {k : Nat} (hk : k < 22) : nA k ≤ 9 ∧ (nB k = 0 ∨ nB k = 8 ∨ nB k = 10) ∧ nPop k ≤ 2 ∧ nPush k ≤ 1 ∧ (nB k = 10 → nPop k = 0 ∧ nA k = 6) := by
  have := List.all_eq_true.1 nX_ok k (List.mem_range.2 hk)
  simp at this
  refine ⟨this.1, this.2.1, this.2.2.1, this.2.2.2.1, fun e => ?_⟩
  rcases this.2.2.2.2 with h | h
  · exact absurd e h
  · exact h
theorem wrong_zero {np : Nat} {fr : Nat → Int} {p : PR} {o a b : Int} (h : wrongM np fr p o a b = 0) (hb : b ≤ 9223372036854775807) :
    ∃ k : Nat, o = (k : Int) ∧ 1 ≤ k ∧ k < 22 ∧ 0 ≤ cnt (nA k) a ∧ cnt (nA k) a ≤ 4096 ∧ 0 ≤ cnt (nB k) b ∧ cnt (nB k) b ≤ 9223372036854775807 ∧ popd k a b ≤ 9223372036854775807 := by
  unfold wrongM at h
  split at h
  · cases h
  rename_i ho
  have ho2 : 1 ≤ o ∧ o ≤ 21 := by simpa [isIn] using ho
  obtain ⟨k, rfl⟩ : ∃ k : Nat, o = (k : Int) := ⟨o.toNat, by omega⟩
  rw [Int.toNat_natCast] at h
  split at h
  · cases h
  split at h
  · cases h
  rename_i h3
  split at h
  · cases h
  split at h
  · cases h
  rename_i h6
  have hk : k < 22 := by omega
  obtain ⟨x1, x2, x3, x4, x5⟩ := nX hk
  have tA : thr np p (nA k) a = true := by
    cases e : thr np p (nA k) a with
    | true => rfl
    | false => exact absurd (.inl e) h3
  have tB : thr np p (nB k) b = true := by
    cases e : thr np p (nB k) b with
    | true => rfl
    | false => exact absurd (.inr e) h3
  have cA : 0 ≤ cnt (nA k) a ∧ cnt (nA k) a ≤ 4096 := by
    unfold cnt
    split
    · rename_i h8
      rcases h8 with e | e | e
      · rw [e] at tA; have : 0 ≤ a ∧ a ≤ 64 := by simpa [thr, isIn] using tA
        omega
      · rw [e] at tA; have : 0 ≤ a ∧ a ≤ 4096 := by simpa [thr, isIn] using tA
        omega
      · omega
    · omega
  have cB : 0 ≤ cnt (nB k) b ∧ (nB k ≠ 10 → cnt (nB k) b ≤ 64) ∧ cnt (nB k) b ≤ 9223372036854775807 := by
    unfold cnt
    split
    · rename_i h8
      rcases h8 with e | e | e
      · rw [e] at tB; have : 0 ≤ b ∧ b ≤ 64 := by simpa [thr, isIn] using tB
        omega
      · omega
      · obtain ⟨-, e6⟩ := x5 e
        rw [e6] at tA
        have ha : 0 ≤ a ∧ a ≤ 91 := by simpa [thr, isIn] using tA
        have ht : takesM a b = true := by
          cases et : takesM a b with
          | true => rfl
          | false => exact absurd ⟨e6, et⟩ h6
        have ht2 : pLeast a.toNat ≤ b := by
          unfold takesM at ht
          simp at ht
          exact ht.2.1
        have := (pB_at (k := a.toNat) (by omega)).1
        omega
    · omega
  refine ⟨k, rfl, by omega, hk, cA.1, cA.2, cB.1, cB.2.2, ?_⟩
  unfold popd
  by_cases e : nB k = 10
  · obtain ⟨e1, e6⟩ := x5 e
    have : cnt (nA k) a = 0 := by rw [e6]; rfl
    omega
  · have := cB.2.1 e
    omega

set_option maxRecDepth 20000 in
set_option maxHeartbeats 2000000 in
theorem look_any (B : Nat) (w : World) (fb cb pb : Nat) (so : Option Addr) (np sc : Nat) (fr : Nat → Int) (num : Nat) (p : PR) (q : Hd) (db : Nat) (tv : Value) (n : Nat) (f : Nat → Nat) (d : Nat → Int) (T : Nat → Bool) (h : FSt B w fb cb pb so np sc fr num p q db tv n f d T) (hf0 : 0 ≤ p.free) (hnp : 0 < np) (pc : Nat) (hpc : pc < p.len) (hd0 : 0 ≤ d pc) (G : Nat × (Nat → Int) × (Nat → Bool)) (hG : G = lookM np fr p pc d T) :
    Calls Try.prog 26 #[.pointer (some ⟨fb, 0, none⟩), .int .i64 (pc : Int)] w fun e w' => e = .returned (.int .i64 (G.1 : Int)) ∧ (G.1 = 0 → ∃ tv' n' f', FSt B w' fb cb pb so np sc fr num p q db tv' n' f' G.2.1 G.2.2) ∧ Fr (fun k => B ≤ k) w w' := by
  have c4 : w.cell? ⟨fb, 4, none⟩ = some (.slice q.co p.len q.cc) := cell_row h.rd.fo rfl
  have hfb : fb < w.heap.size := (Array.getElem?_eq_some_iff.1 h.rd.fo).1
  have hl1 := h.l1
  have hl2 := h.l2
  have b1 := h.rd.pb.c1
  have b2 := h.rd.pb.c2
  have bb := h.rd.pb.b pc hpc
  rcases h.rd.co with e | ⟨g, off, e, hco⟩
  · omega
  have c4' := c4
  rw [e] at c4'
  clear c4 e
  obtain ⟨i0, i1, i2⟩ := hco pc hpc
  clear hco
  have KW := fun (W : World) (hW : Fr (fun _ => False) w W) => wrong_any W fb cb pb so np sc fr num p q _ _ (h.rd.new hW) hf0 hnp (p.op pc) (p.a pc) (p.b pc) bb.1 bb.2
  have HKW := hide KW
  have HH := hide h
  clear KW h
  unfold lookM at hG
  by_cases hw : wrongM np fr p (p.op pc) (p.a pc) (p.b pc) = 0
  · rw [if_neg (by simpa using hw)] at hG
    obtain ⟨k, hk0, hk1, hk, x1, x2, x3, x4, x5⟩ := wrong_zero hw bb.2
    rw [hk0] at hw
    have HW := hide hw
    clear hw
    have KG := fun (W : World) (hW : Fr (fun _ => False) w W) (dep : Int) => goOn_any B W fb cb pb so np sc fr num p q db tv n f d T (HH.out.new hW) pc k dep hpc hk0 hk
    have HKG := hide KG
    clear KG
    rw [hk0] at i0 hG HKW
    rw [Int.toNat_natCast] at hG
    obtain ⟨X1, X2, X3, X4, -⟩ := nX hk
    have KP := fun (W : World) => popped_any k (k : Int) (p.a pc) (p.b pc) W (by omega) x2 (by omega) x4 x5
    unfold needV at KP
    have hp0 : 0 ≤ popd k (p.a pc) (p.b pc) := by unfold popd; omega
    have hd4 := HH.out.top pc hpc
    have HKP := hide KP
    clear KP hk0
    generalize p.a pc = a at *
    generalize p.b pc = b at *
    go_enter Try.func26, Try.ntmps26
    go_wp2_with fail
    go_at_call 33
    refine (HKW.out _ (by repeat (first | exact Fr.refl _ _ | apply Fr.alloc | apply Fr.drew | apply Fr.drewN))).mono ?_
    rintro e w2 ⟨rfl, F2⟩
    rw [HW.out]
    have F2' : Fr (fun _ => False) w w2 := Fr.trans (by repeat (first | exact Fr.refl _ _ | apply Fr.alloc | apply Fr.drew | apply Fr.drewN)) F2 (fun _ _ e => e)
    have j0 : w2.cell? ⟨w.heap.size, 0, none⟩ = some (.int .i64 (k : Int)) := (F2.cell (by simp) (fun e => e)).trans (by simp)
    have j1 : w2.cell? ⟨w.heap.size, 1, none⟩ = some (.int .i64 a) := (F2.cell (by simp) (fun e => e)).trans (by simp)
    have j2 : w2.cell? ⟨w.heap.size, 2, none⟩ = some (.int .i64 b) := (F2.cell (by simp) (fun e => e)).trans (by simp)
    have hs2 : w.heap.size < w2.heap.size := Nat.lt_of_lt_of_le (by simp) F2.size
    have S2 := HH.out.new F2'
    have c7 : w2.cell? ⟨fb, 7, none⟩ = some (.pointer (some ⟨cb, 0, none⟩)) := cell_row S2.rd.fo rfl
    obtain ⟨n0, n1, n2, n3, n4⟩ := S2.rd.ch.need hk
    have hfb2 : fb < w2.heap.size := Nat.lt_of_lt_of_le hfb F2'.size
    have hcb2 : cb < w2.heap.size := (Array.getElem?_eq_some_iff.1 S2.rd.ch.ch).1
    have HF2 := hide F2'
    have HS2 := hide S2
    clear F2 F2' S2 HKW HW c4' i0 i1 i2
    go_wp2
    go_region
    have F3 : Fr (fun _ => False) w2 (w2.alloc (.cells #[.int .i64 (nA k : Int), .int .i64 (nB k : Int), .int .i64 (nPop k : Int), .int .i64 (nPush k : Int), .bool (nEnd k)] 65)).drew := ((Fr.refl _ _).alloc _).drew
    have b3 : (w2.alloc (.cells #[.int .i64 (nA k : Int), .int .i64 (nB k : Int), .int .i64 (nPop k : Int), .int .i64 (nPush k : Int), .bool (nEnd k)] 65)).drew.heap[w2.heap.size]? = _ := heap_alloc_new w2 _
    clear n0 n1 n2 n3 n4 c7
    have hs3 : w2.heap.size < (w2.alloc (.cells #[.int .i64 (nA k : Int), .int .i64 (nB k : Int), .int .i64 (nPop k : Int), .int .i64 (nPush k : Int), .bool (nEnd k)] 65)).drew.heap.size := by simp
    generalize (w2.alloc (.cells #[.int .i64 (nA k : Int), .int .i64 (nB k : Int), .int .i64 (nPop k : Int), .int .i64 (nPush k : Int), .bool (nEnd k)] 65)).drew = w3 at *
    have n0 : w3.cell? ⟨w2.heap.size, 0, none⟩ = some (.int .i64 (nA k : Int)) := cell_row b3 rfl
    have n1 : w3.cell? ⟨w2.heap.size, 1, none⟩ = some (.int .i64 (nB k : Int)) := cell_row b3 rfl
    have n2 : w3.cell? ⟨w2.heap.size, 2, none⟩ = some (.int .i64 (nPop k : Int)) := cell_row b3 rfl
    have n3 : w3.cell? ⟨w2.heap.size, 3, none⟩ = some (.int .i64 (nPush k : Int)) := cell_row b3 rfl
    have n4 : w3.cell? ⟨w2.heap.size, 4, none⟩ = some (.bool (nEnd k)) := cell_row b3 rfl
    have k0 := (F3.cell hs2 (fun e => e)).trans j0
    have k1 := (F3.cell hs2 (fun e => e)).trans j1
    have k2 := (F3.cell hs2 (fun e => e)).trans j2
    have S3 := HS2.out.new F3
    have d9 := S3.c9
    have dd := S3.dep.cell hpc
    have hdb3 := S3.dep.lt
    have hfb3 : fb < w3.heap.size := Nat.lt_of_lt_of_le hfb2 F3.size
    have hs23 : w.heap.size < w3.heap.size := by omega
    have HF3 := hide (HF2.out.trans F3 (fun _ _ e => e))
    have HS3 := hide S3
    clear F3 S3 HF2 HS2 HH b3 j0 j1 j2
    go_wp2
    go_region_held3 (fun w' => w'.cell? ⟨fb, 9, none⟩ = some (.slice (some ⟨db, 0, none⟩) p.len p.len) ∧ w'.cell? ⟨db, pc, none⟩ = some (.int .i64 (d pc)) ∧ w'.cell? ⟨w2.heap.size, 0, none⟩ = some (.int .i64 (nA k : Int)) ∧ w'.cell? ⟨w2.heap.size, 1, none⟩ = some (.int .i64 (nB k : Int)) ∧ w'.cell? ⟨w2.heap.size, 2, none⟩ = some (.int .i64 (nPop k : Int)) ∧ w'.cell? ⟨w2.heap.size, 3, none⟩ = some (.int .i64 (nPush k : Int)) ∧ w'.cell? ⟨w2.heap.size, 4, none⟩ = some (.bool (nEnd k)) ∧ w'.cell? ⟨w.heap.size, 0, none⟩ = some (.int .i64 (k : Int)) ∧ w'.cell? ⟨w.heap.size, 1, none⟩ = some (.int .i64 a) ∧ w'.cell? ⟨w.heap.size, 2, none⟩ = some (.int .i64 b)) (go_keep)
      (first | (go_at_call 34; refine (HKP.out _).mono ?_; rintro e w4 ⟨rfl, F4⟩; have q0 : w4.cell? ⟨fb, 9, none⟩ = some (.slice (some ⟨db, 0, none⟩) p.len p.len) := (F4.cell hfb3 (fun e => e)).trans d9; have q1 : w4.cell? ⟨db, pc, none⟩ = some (.int .i64 (d pc)) := (F4.cell hdb3 (fun e => e)).trans dd; have q2 : w4.cell? ⟨w2.heap.size, 0, none⟩ = some (.int .i64 (nA k : Int)) := (F4.cell hs3 (fun e => e)).trans n0; have q3 : w4.cell? ⟨w2.heap.size, 1, none⟩ = some (.int .i64 (nB k : Int)) := (F4.cell hs3 (fun e => e)).trans n1; have q4 : w4.cell? ⟨w2.heap.size, 2, none⟩ = some (.int .i64 (nPop k : Int)) := (F4.cell hs3 (fun e => e)).trans n2; have q5 : w4.cell? ⟨w2.heap.size, 3, none⟩ = some (.int .i64 (nPush k : Int)) := (F4.cell hs3 (fun e => e)).trans n3; have q6 : w4.cell? ⟨w2.heap.size, 4, none⟩ = some (.bool (nEnd k)) := (F4.cell hs3 (fun e => e)).trans n4; have q7 : w4.cell? ⟨w.heap.size, 0, none⟩ = some (.int .i64 (k : Int)) := (F4.cell hs23 (fun e => e)).trans k0; have q8 : w4.cell? ⟨w.heap.size, 1, none⟩ = some (.int .i64 a) := (F4.cell hs23 (fun e => e)).trans k1; have q9 : w4.cell? ⟨w.heap.size, 2, none⟩ = some (.int .i64 b) := (F4.cell hs23 (fun e => e)).trans k2; have HF4 : Hid (Fr (fun _ => False) w3 w4) := hide (Fr.trans (S := fun _ => False) ((Fr.refl _ _).drew) F4 (fun _ _ e => e)); clear F4))
    have hwr : IntKind.i64.wrap (d pc - popd k a b) = d pc - popd k a b := by rw [IntKind.wrap_i64]; omega
    rw [hwr]
    have hL1 : d pc - popd k a b ≤ 4096 := by omega
    have hL2 : -9223372036854775807 ≤ d pc - popd k a b := by omega
    clear hwr x5 hp0
    generalize d pc - popd k a b = L at *
    generalize popd k a b = PP at *
    clear d9 dd n0 n1 n2 n3 n4 k0 k1 k2 x1 x2 x3 x4 HKP
    by_cases hL0 : L < 0
    · rw [if_pos hL0] at hG
      have HG := hide hG
      clear hG
      go_wp2
      go_ret
      exact ⟨retI (by rw [HG.out]; rfl), fun h => absurd h (by rw [HG.out]; exact Nat.succ_ne_zero _), (HF3.out.trans (Fr.trans (S := fun _ => False) (S' := fun _ => False) HF4.out (by repeat (first | exact Fr.refl _ _ | apply Fr.alloc | apply Fr.drew | apply Fr.drewN)) (fun _ _ e => e)) (fun _ _ e => e)).mono (fun _ _ e => e.elim)⟩
    · rw [if_neg hL0] at hG
      by_cases hA : nA k = 2
      · have eA : ((nA k : Int) == 2) = true := by rw [hA]; rfl
        by_cases hin : isIn a 0 (L - 1) = true
        · rw [if_neg (by rw [hin]; simp)] at hG
          have HN := hide hin
          clear hin hA
          by_cases hU : L + (nPush k : Int) > 4096
          · rw [if_pos hU] at hG
            have HG := hide hG
            clear hG
            go_wp2_with (go_at_call 30; refine (within_any _ _ _ _).mono ?_; rintro e w' ⟨rfl, rfl⟩; rw [HN.out])
            go_ret
            exact ⟨retI (by rw [HG.out]; rfl), fun h => absurd h (by rw [HG.out]; exact Nat.succ_ne_zero _), (HF3.out.trans (Fr.trans (S := fun _ => False) (S' := fun _ => False) HF4.out (by repeat (first | exact Fr.refl _ _ | apply Fr.alloc | apply Fr.drew | apply Fr.drewN)) (fun _ _ e => e)) (fun _ _ e => e)).mono (fun _ _ e => e.elim)⟩
          · rw [if_neg hU] at hG
            have HG := hide hG
            clear hG
            go_wp2_with (first
              | (go_at_call 30; refine (within_any _ _ _ _).mono ?_; rintro e w' ⟨rfl, rfl⟩; rw [HN.out])
              | (go_at_call 35; refine (HKG.out _ (HF3.out.trans (Fr.trans (S := fun _ => False) (S' := fun _ => False) HF4.out (by repeat (first | exact Fr.refl _ _ | apply Fr.alloc | apply Fr.drew | apply Fr.drewN)) (fun _ _ e => e)) (fun _ _ e => e)) (L + (nPush k : Int)) (by omega) (by omega) G HG.out).mono ?_; rintro e w5 ⟨rfl, h5, F5⟩))
            go_ret
            exact ⟨rfl, h5, Fr.trans (S := fun k => B ≤ k) ((HF3.out.trans (Fr.trans (S := fun _ => False) (S' := fun _ => False) HF4.out (by repeat (first | exact Fr.refl _ _ | apply Fr.alloc | apply Fr.drew | apply Fr.drewN)) (fun _ _ e => e)) (fun _ _ e => e)).mono (fun _ _ e => e.elim)) F5 (fun _ _ e => e)⟩
        · have hin' : isIn a 0 (L - 1) = false := by simpa using hin
          rw [if_pos ⟨hA, hin'⟩] at hG
          have HG := hide hG
          have HN := hide hin'
          clear hin hin' hA hG
          go_wp2_with (go_at_call 30; refine (within_any _ _ _ _).mono ?_; rintro e w' ⟨rfl, rfl⟩; rw [HN.out])
          go_ret
          exact ⟨retI (by rw [HG.out]; rfl), fun h => absurd h (by rw [HG.out]; exact Nat.succ_ne_zero _), (HF3.out.trans (Fr.trans (S := fun _ => False) (S' := fun _ => False) HF4.out (by repeat (first | exact Fr.refl _ _ | apply Fr.alloc | apply Fr.drew | apply Fr.drewN)) (fun _ _ e => e)) (fun _ _ e => e)).mono (fun _ _ e => e.elim)⟩
      · rw [if_neg (fun e => hA e.1)] at hG
        have eA : ((nA k : Int) == 2) = false := by rw [beq_eq_false_iff_ne]; omega
        have HN : Hid (True = True) := rfl
        clear hA
        by_cases hU : L + (nPush k : Int) > 4096
        · rw [if_pos hU] at hG
          have HG := hide hG
          clear hG
          go_wp2
          go_ret
          exact ⟨retI (by rw [HG.out]; rfl), fun h => absurd h (by rw [HG.out]; exact Nat.succ_ne_zero _), (HF3.out.trans (Fr.trans (S := fun _ => False) (S' := fun _ => False) HF4.out (by repeat (first | exact Fr.refl _ _ | apply Fr.alloc | apply Fr.drew | apply Fr.drewN)) (fun _ _ e => e)) (fun _ _ e => e)).mono (fun _ _ e => e.elim)⟩
        · rw [if_neg hU] at hG
          have HG := hide hG
          clear hG
          go_wp2_with (first
            | (go_at_call 30; refine (within_any _ _ _ _).mono ?_; rintro e w' ⟨rfl, rfl⟩; rw [HN.out])
            | (go_at_call 35; refine (HKG.out _ (HF3.out.trans (Fr.trans (S := fun _ => False) (S' := fun _ => False) HF4.out (by repeat (first | exact Fr.refl _ _ | apply Fr.alloc | apply Fr.drew | apply Fr.drewN)) (fun _ _ e => e)) (fun _ _ e => e)) (L + (nPush k : Int)) (by omega) (by omega) G HG.out).mono ?_; rintro e w5 ⟨rfl, h5, F5⟩))
          go_ret
          exact ⟨rfl, h5, Fr.trans (S := fun k => B ≤ k) ((HF3.out.trans (Fr.trans (S := fun _ => False) (S' := fun _ => False) HF4.out (by repeat (first | exact Fr.refl _ _ | apply Fr.alloc | apply Fr.drew | apply Fr.drewN)) (fun _ _ e => e)) (fun _ _ e => e)).mono (fun _ _ e => e.elim)) F5 (fun _ _ e => e)⟩
  · rw [if_pos (by simpa using hw)] at hG
    have HW := hide hw
    have HG := hide hG
    have hwb : (((wrongM np fr p (p.op pc) (p.a pc) (p.b pc) : Nat) : Int) != 0) = true := by rw [bne_iff_ne]; omega
    clear hw hG
    generalize wrongM np fr p (p.op pc) (p.a pc) (p.b pc) = R at *
    go_enter Try.func26, Try.ntmps26
    go_wp2_with (go_at_call 33; refine (HKW.out _ (by repeat (first | exact Fr.refl _ _ | apply Fr.alloc | apply Fr.drew | apply Fr.drewN))).mono ?_; rintro e w2 ⟨rfl, F2⟩)
    go_ret
    refine ⟨retI (by rw [HG.out]), fun h => ?_, (Fr.trans (S := fun _ => False) (by repeat (first | exact Fr.refl _ _ | apply Fr.alloc | apply Fr.drew | apply Fr.drewN)) F2 (fun _ _ e => e)).mono (fun _ _ e => e.elim)⟩
    rw [HG.out] at h
    exact absurd h HW.out

end Go.Proofs.Ytmogglmofbbjlaa
