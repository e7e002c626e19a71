/-
  What is proved here: what is wrong with an instruction, whatever the frame is: check's wrongOperands.
-/
import Derived.Test.YtmogglmofbbjlaaKWrong0
namespace Go.Proofs.Ytmogglmofbbjlaa
open Go Go.RowKit

theorem nB_ok : ((List.range 22).all fun k => nB k == 0 || (k == 10 || k == 16)) = true := by decide +kernel
theorem nB_ne {k : Nat} (hk : k < 22) (h : nB k ≠ 0) : k = 10 ∨ k = 16 := by
  have := List.all_eq_true.1 nB_ok k (List.mem_range.2 hk)
  simp at this
  rcases this with e | e
  · exact absurd e h
  · exact e
set_option maxRecDepth 20000 in
set_option maxHeartbeats 2000000 in
theorem wrong_any (w : World) (fb cb pb : Nat) (so : Option Addr) (np sc : Nat) (fr : Nat → Int) (num : Nat) (p : PR) (q : Hd) (dv tv : Value) (h : Rdy w fb cb pb so np sc fr num p q dv tv) (hf0 : 0 ≤ p.free) (_hnp : 0 < np) (o a b : Int) (hb1 : -9223372036854775808 ≤ b) (hb2 : b ≤ 9223372036854775807) :
    Calls Try.prog 33 #[.pointer (some ⟨fb, 0, none⟩), .agg #[.int .i64 o, .int .i64 a, .int .i64 b]] w fun e w' => e = .returned (.int .i64 (wrongM np fr p o a b : Int)) ∧ Fr (fun _ => False) w w' := by
  by_cases ho : isIn o 1 21 = true
  · have ho' : 1 ≤ o ∧ o ≤ 21 := by simpa [isIn] using ho
    obtain ⟨k, rfl⟩ : ∃ k : Nat, o = (k : Int) := ⟨o.toNat, by omega⟩
    have hk : k < 22 := by omega
    have hk1 : 1 ≤ k := by omega
    have HW : Hid (wrongM np fr p (k : Int) a b = if (nA k = 0 ∧ a ≠ 0) ∨ (nB k = 0 ∧ b ≠ 0) then 30 else if thr np p (nA k) a = false ∨ thr np p (nB k) b = false then 33 else if nA k = 5 ∧ fr a.toNat ≠ b then 34 else if nA k = 6 ∧ takesM a b = false then 34 else 0) := by
      unfold Hid wrongM
      rw [if_neg (by rw [ho]; decide)]
      rfl
    by_cases hT : (k = 10 ∨ k = 16) ∧ thr np p (nA k) a = true ∧ thr np p (nB k) b = true
    · obtain ⟨rfl | rfl, tA, tB⟩ := hT
      · exact wrong_clo w fb cb pb so np sc fr num p q dv tv h hf0 a b hb1 hb2 tA tB
      · exact wrong_prim w fb cb pb so np sc fr num p q dv tv h hf0 a b hb1 hb2 tA tB
    have HT : Hid (nB k ≠ 0 → ¬ (thr np p (nA k) a = true ∧ thr np p (nB k) b = true)) := fun hB hh => hT ⟨by
      rcases nB_ne hk hB with e | e
      · exact .inl e
      · exact .inr e, hh⟩
    clear hT
    have c7 : w.cell? ⟨fb, 7, none⟩ = some (.pointer (some ⟨cb, 0, none⟩)) := cell_row h.fo rfl
    have d0 : w.cell? ⟨cb, 0, none⟩ = some (.slice so np sc) := cell_row h.ch.ch (chC_0 _ _)
    obtain ⟨n0, n1, n2, n3, n4⟩ := h.ch.need hk
    have hfb : fb < w.heap.size := (Array.getElem?_eq_some_iff.1 h.fo).1
    have hcb : cb < w.heap.size := (Array.getElem?_eq_some_iff.1 h.ch.ch).1
    have hAB := nAB hk
    have HR := hide h
    have HO := hide ho
    have b4 := h.ch.s1
    have b5 := h.ch.s2
    generalize wrongM np fr p (k : Int) a b = R at *
    generalize nPop k = PP at *
    generalize nPush k = PU at *
    generalize nEnd k = NE at *
    generalize nA k = A at *
    generalize nB k = B at *
    clear h ho
    have eA0 : A = 0 → ((A : Int) == 0) = true := fun e => by rw [e]; rfl
    have eA1 : A ≠ 0 → ((A : Int) == 0) = false := fun e => by rw [beq_eq_false_iff_ne]; omega
    have eB0 : B = 0 → ((B : Int) == 0) = true := fun e => by rw [e]; rfl
    have eB1 : B ≠ 0 → ((B : Int) == 0) = false := fun e => by rw [beq_eq_false_iff_ne]; omega
    have ea1 : a ≠ 0 → (a != 0) = true := fun e => by rw [bne_iff_ne]; exact e
    have eb1 : b ≠ 0 → (b != 0) = true := fun e => by rw [bne_iff_ne]; exact e
    by_cases hA : A = 0
    · have hB : B = 0 := by omega
      have tA : thr np p A a = true := by rw [hA]; rfl
      have tB : thr np p B b = true := by rw [hB]; rfl
      subst hA
      subst hB
      clear eA0 eA1 eB0 eB1 hAB
      by_cases ha : a = 0
      · subst ha
        clear ea1
        by_cases hb : b = 0
        · subst hb
          go_enter Try.func33, Try.ntmps33
          go_wp2_with (first
            | (go_at_call 30; refine (within_any _ _ _ _).mono ?_; rintro e w' ⟨rfl, rfl⟩; rw [HO.out])
            | (go_at_call 39; refine (isThere_any _ fb cb pb so np sc fr num p q dv tv (HR.out.new (by repeat (first | exact Fr.refl _ _ | apply Fr.alloc | apply Fr.drew | apply Fr.drewN))) hf0 _ _).mono ?_; rintro e w' ⟨rfl, rfl⟩))
          go_region
          go_wp2_with (first
            | (go_at_call 30; refine (within_any _ _ _ _).mono ?_; rintro e w' ⟨rfl, rfl⟩; rw [HO.out])
            | (go_at_call 39; refine (isThere_any _ fb cb pb so np sc fr num p q dv tv (HR.out.new (by repeat (first | exact Fr.refl _ _ | apply Fr.alloc | apply Fr.drew | apply Fr.drewN))) hf0 _ _).mono ?_; rintro e w' ⟨rfl, rfl⟩))
          go_quiet (fail)
          go_wp2
          go_quiet (fail)
          go_wp2
          go_ret
          exact ⟨retI (by rw [HW.out]; simp [tA]), (by repeat (first | exact Fr.refl _ _ | apply Fr.alloc | apply Fr.drew | apply Fr.drewN))⟩
        · have nb := eb1 hb
          clear eb1
          go_enter Try.func33, Try.ntmps33
          go_wp2_with (first
            | (go_at_call 30; refine (within_any _ _ _ _).mono ?_; rintro e w' ⟨rfl, rfl⟩; rw [HO.out])
            | (go_at_call 39; refine (isThere_any _ fb cb pb so np sc fr num p q dv tv (HR.out.new (by repeat (first | exact Fr.refl _ _ | apply Fr.alloc | apply Fr.drew | apply Fr.drewN))) hf0 _ _).mono ?_; rintro e w' ⟨rfl, rfl⟩))
          go_region
          go_wp2_with (first
            | (go_at_call 30; refine (within_any _ _ _ _).mono ?_; rintro e w' ⟨rfl, rfl⟩; rw [HO.out])
            | (go_at_call 39; refine (isThere_any _ fb cb pb so np sc fr num p q dv tv (HR.out.new (by repeat (first | exact Fr.refl _ _ | apply Fr.alloc | apply Fr.drew | apply Fr.drewN))) hf0 _ _).mono ?_; rintro e w' ⟨rfl, rfl⟩))
          go_ret
          exact ⟨retI (by rw [HW.out]; simp [hb]), (by repeat (first | exact Fr.refl _ _ | apply Fr.alloc | apply Fr.drew | apply Fr.drewN))⟩
      · have na := ea1 ha
        clear ea1 eb1
        go_enter Try.func33, Try.ntmps33
        go_wp2_with (first
          | (go_at_call 30; refine (within_any _ _ _ _).mono ?_; rintro e w' ⟨rfl, rfl⟩; rw [HO.out])
          | (go_at_call 39; refine (isThere_any _ fb cb pb so np sc fr num p q dv tv (HR.out.new (by repeat (first | exact Fr.refl _ _ | apply Fr.alloc | apply Fr.drew | apply Fr.drewN))) hf0 _ _).mono ?_; rintro e w' ⟨rfl, rfl⟩))
        go_region
        go_wp2_with (first
          | (go_at_call 30; refine (within_any _ _ _ _).mono ?_; rintro e w' ⟨rfl, rfl⟩; rw [HO.out])
          | (go_at_call 39; refine (isThere_any _ fb cb pb so np sc fr num p q dv tv (HR.out.new (by repeat (first | exact Fr.refl _ _ | apply Fr.alloc | apply Fr.drew | apply Fr.drewN))) hf0 _ _).mono ?_; rintro e w' ⟨rfl, rfl⟩))
        go_ret
        exact ⟨retI (by rw [HW.out]; simp [ha]), (by repeat (first | exact Fr.refl _ _ | apply Fr.alloc | apply Fr.drew | apply Fr.drewN))⟩
    · have nA0 := eA1 hA
      clear eA0 eA1 ea1
      by_cases hB : B = 0
      · have hA5 : A ≠ 5 ∧ A ≠ 6 := by omega
        have e5 : ((A : Int) == 5) = false := by rw [beq_eq_false_iff_ne]; omega
        have e6 : ((A : Int) == 6) = false := by rw [beq_eq_false_iff_ne]; omega
        have tB : thr np p B b = true := by rw [hB]; rfl
        have HA := hide hA
        have HA5 := hide hA5
        subst hB
        clear eB0 eB1 hAB hA hA5
        by_cases hb : b = 0
        · subst hb
          clear eb1
          by_cases tA : thr np p A a = true
          · go_enter Try.func33, Try.ntmps33
            go_wp2_with (first
              | (go_at_call 30; refine (within_any _ _ _ _).mono ?_; rintro e w' ⟨rfl, rfl⟩; rw [HO.out])
              | (go_at_call 39; refine (isThere_any _ fb cb pb so np sc fr num p q dv tv (HR.out.new (by repeat (first | exact Fr.refl _ _ | apply Fr.alloc | apply Fr.drew | apply Fr.drewN))) hf0 _ _).mono ?_; rintro e w' ⟨rfl, rfl⟩))
            go_region
            go_wp2_with (first
              | (go_at_call 30; refine (within_any _ _ _ _).mono ?_; rintro e w' ⟨rfl, rfl⟩; rw [HO.out])
              | (go_at_call 39; refine (isThere_any _ fb cb pb so np sc fr num p q dv tv (HR.out.new (by repeat (first | exact Fr.refl _ _ | apply Fr.alloc | apply Fr.drew | apply Fr.drewN))) hf0 _ _).mono ?_; rintro e w' ⟨rfl, rfl⟩))
            go_quiet (fail)
            go_wp2
            go_quiet (fail)
            go_wp2
            go_ret
            exact ⟨retI (by rw [HW.out]; simp [HA.out, HA5.out, tA, tB]), (by repeat (first | exact Fr.refl _ _ | apply Fr.alloc | apply Fr.drew | apply Fr.drewN))⟩
          · have tA' : thr np p A a = false := by simpa using tA
            clear tA
            go_enter Try.func33, Try.ntmps33
            go_wp2_with (first
              | (go_at_call 30; refine (within_any _ _ _ _).mono ?_; rintro e w' ⟨rfl, rfl⟩; rw [HO.out])
              | (go_at_call 39; refine (isThere_any _ fb cb pb so np sc fr num p q dv tv (HR.out.new (by repeat (first | exact Fr.refl _ _ | apply Fr.alloc | apply Fr.drew | apply Fr.drewN))) hf0 _ _).mono ?_; rintro e w' ⟨rfl, rfl⟩))
            go_region
            go_wp2_with (first
              | (go_at_call 30; refine (within_any _ _ _ _).mono ?_; rintro e w' ⟨rfl, rfl⟩; rw [HO.out])
              | (go_at_call 39; refine (isThere_any _ fb cb pb so np sc fr num p q dv tv (HR.out.new (by repeat (first | exact Fr.refl _ _ | apply Fr.alloc | apply Fr.drew | apply Fr.drewN))) hf0 _ _).mono ?_; rintro e w' ⟨rfl, rfl⟩))
            go_ret
            exact ⟨retI (by rw [HW.out]; simp [HA.out, tA']), (by repeat (first | exact Fr.refl _ _ | apply Fr.alloc | apply Fr.drew | apply Fr.drewN))⟩
        · have nb := eb1 hb
          clear eb1
          go_enter Try.func33, Try.ntmps33
          go_wp2_with (first
            | (go_at_call 30; refine (within_any _ _ _ _).mono ?_; rintro e w' ⟨rfl, rfl⟩; rw [HO.out])
            | (go_at_call 39; refine (isThere_any _ fb cb pb so np sc fr num p q dv tv (HR.out.new (by repeat (first | exact Fr.refl _ _ | apply Fr.alloc | apply Fr.drew | apply Fr.drewN))) hf0 _ _).mono ?_; rintro e w' ⟨rfl, rfl⟩))
          go_region
          go_wp2_with (first
            | (go_at_call 30; refine (within_any _ _ _ _).mono ?_; rintro e w' ⟨rfl, rfl⟩; rw [HO.out])
            | (go_at_call 39; refine (isThere_any _ fb cb pb so np sc fr num p q dv tv (HR.out.new (by repeat (first | exact Fr.refl _ _ | apply Fr.alloc | apply Fr.drew | apply Fr.drewN))) hf0 _ _).mono ?_; rintro e w' ⟨rfl, rfl⟩))
          go_ret
          exact ⟨retI (by rw [HW.out]; simp [hb]), (by repeat (first | exact Fr.refl _ _ | apply Fr.alloc | apply Fr.drew | apply Fr.drewN))⟩
      · have nB0 := eB1 hB
        clear eB0 eB1 eb1
        have HA := hide hA
        have HB := hide hB
        have HAB := hide hAB
        clear hA hB hAB
        by_cases tA : thr np p A a = true
        · by_cases tB : thr np p B b = true
          · exact absurd ⟨tA, tB⟩ (HT.out HB.out)
          · have tB' : thr np p B b = false := by simpa using tB
            clear tB
            go_enter Try.func33, Try.ntmps33
            go_wp2_with (first
              | (go_at_call 30; refine (within_any _ _ _ _).mono ?_; rintro e w' ⟨rfl, rfl⟩; rw [HO.out])
              | (go_at_call 39; refine (isThere_any _ fb cb pb so np sc fr num p q dv tv (HR.out.new (by repeat (first | exact Fr.refl _ _ | apply Fr.alloc | apply Fr.drew | apply Fr.drewN))) hf0 _ _).mono ?_; rintro e w' ⟨rfl, rfl⟩))
            go_region
            go_wp2_with (first
              | (go_at_call 30; refine (within_any _ _ _ _).mono ?_; rintro e w' ⟨rfl, rfl⟩; rw [HO.out])
              | (go_at_call 39; refine (isThere_any _ fb cb pb so np sc fr num p q dv tv (HR.out.new (by repeat (first | exact Fr.refl _ _ | apply Fr.alloc | apply Fr.drew | apply Fr.drewN))) hf0 _ _).mono ?_; rintro e w' ⟨rfl, rfl⟩))
            go_ret
            exact ⟨retI (by rw [HW.out]; simp [HA.out, HB.out, tB']), (by repeat (first | exact Fr.refl _ _ | apply Fr.alloc | apply Fr.drew | apply Fr.drewN))⟩
        · have tA' : thr np p A a = false := by simpa using tA
          clear tA
          go_enter Try.func33, Try.ntmps33
          go_wp2_with (first
            | (go_at_call 30; refine (within_any _ _ _ _).mono ?_; rintro e w' ⟨rfl, rfl⟩; rw [HO.out])
            | (go_at_call 39; refine (isThere_any _ fb cb pb so np sc fr num p q dv tv (HR.out.new (by repeat (first | exact Fr.refl _ _ | apply Fr.alloc | apply Fr.drew | apply Fr.drewN))) hf0 _ _).mono ?_; rintro e w' ⟨rfl, rfl⟩))
          go_region
          go_wp2_with (first
            | (go_at_call 30; refine (within_any _ _ _ _).mono ?_; rintro e w' ⟨rfl, rfl⟩; rw [HO.out])
            | (go_at_call 39; refine (isThere_any _ fb cb pb so np sc fr num p q dv tv (HR.out.new (by repeat (first | exact Fr.refl _ _ | apply Fr.alloc | apply Fr.drew | apply Fr.drewN))) hf0 _ _).mono ?_; rintro e w' ⟨rfl, rfl⟩))
          go_ret
          exact ⟨retI (by rw [HW.out]; simp [HA.out, HB.out, tA']), (by repeat (first | exact Fr.refl _ _ | apply Fr.alloc | apply Fr.drew | apply Fr.drewN))⟩
  · have ho' : isIn o 1 21 = false := by simpa using ho
    have HW : Hid (wrongM np fr p o a b = 30) := by
      unfold Hid wrongM
      rw [if_pos ho']
    have HO := hide ho'
    generalize wrongM np fr p o a b = R at *
    clear ho ho' h
    go_enter Try.func33, Try.ntmps33
    go_wp2_with (go_at_call 30; refine (within_any _ _ _ _).mono ?_; rintro e w' ⟨rfl, rfl⟩; rw [HO.out])
    go_ret
    exact ⟨retI (by rw [HW.out]; rfl), (by repeat (first | exact Fr.refl _ _ | apply Fr.alloc | apply Fr.drew | apply Fr.drewN))⟩

end Go.Proofs.Ytmogglmofbbjlaa
