/-
  What is proved here: check.Program, check.Depths of any protos.
-/
import Derived.Test.YtmogglmofbbjlaaKWalk
namespace Go.Proofs.Ytmogglmofbbjlaa
open Go Go.RowKit

/-- Protos, in memory. -/
def ProtosAt (w : World) (so : Option Addr) (np : Nat) (P : Nat → PR) (Q : Nat → Hd) : Prop :=
  np = 0 ∨ ∃ g off, so = some ⟨g, off, none⟩ ∧ ∀ i, i < np → PrAt w g (off + i * 7) (P i) (Q i) ∧ CodeAt w (Q i).co (P i) ∧ PB (P i) (Q i)
theorem ProtosAt.new {w w' : World} {so : Option Addr} {np : Nat} {P : Nat → PR} {Q : Nat → Hd} (h : ProtosAt w so np P Q) (hf : Fr (fun _ => False) w w') : ProtosAt w' so np P Q := by
  rcases h with e | ⟨g, off, e, h⟩
  · exact .inl e
  · exact .inr ⟨g, off, e, fun i hi => ⟨(h i hi).1.block (hf.block g (h i hi).1.lt (fun e => e)), (h i hi).2.1.fr hf (fun _ _ _ _ e => e), (h i hi).2.2⟩⟩

set_option maxRecDepth 100000 in
set_option maxHeartbeats 1000000 in
theorem checkerOf_any (w : World) (so : Option Addr) (np sc : Nat) :
    Calls Try.prog 15 #[.slice so np sc] w fun e w' => ∃ cb pb, e = .returned (.pointer (some ⟨cb, 0, none⟩)) ∧ w'.heap[cb]? = some (.cells (chC (.slice so np sc) pb) 69 (0, 0)) ∧ w'.heap[pb]? = some (.cells cP 79 (0, 0)) ∧ w.heap.size ≤ cb ∧ w.heap.size ≤ pb ∧ Fr (fun _ => False) w w' := by
  go_enter Try.func15, Try.ntmps15
  go_wp2_with (first
    | (go_at_call 21; refine (prims_any _).mono ?_; rintro e w1 ⟨rfl, hw1⟩; have b1 : w1.heap[w.heap.size]? = some (.cells cP 79 (0, 0)) := (by rw [hw1]; exact heap_alloc_new w _); have F1 : Fr (fun _ => False) w w1 := (by rw [hw1]; exact (Fr.refl _ _).alloc _); have HB1 := hide b1; have HF1 := hide F1; clear b1 F1 hw1)
    | (go_at_call 22; refine (needs_any _).mono ?_; rintro e w2 ⟨rfl, F2⟩; have HF2 := hide F2; clear F2)
    | (refine wpList_buildTo rfl 69 _ rfl (some 6) rfl (chC (.slice so np sc) w.heap.size) (by kernel_rfl) ?_))
  go_ret
  refine ⟨w2.heap.size, w.heap.size, rfl, heap_alloc_new w2 _, ?_, ?_, Nat.le_refl _, HF1.out.trans (HF2.out.alloc _) (fun _ _ e => e)⟩
  · exact (heap_alloc_old w2 _ (Nat.lt_of_lt_of_le (Array.getElem?_eq_some_iff.1 HB1.out).1 HF2.out.size)).trans ((HF2.out.block _ (Array.getElem?_eq_some_iff.1 HB1.out).1 (fun e => e)).trans HB1.out)
  · have := HF1.out.size; have := HF2.out.size; omega

set_option maxRecDepth 20000 in
set_option maxHeartbeats 1000000 in
theorem find_any (w : World) (cb pb g off np sc : Nat) (fr : Nat → Int) (num : Nat) (p : PR) (q : Hd) (h : ChAt w cb pb (some ⟨g, off, none⟩) np sc fr) (hp : PrAt w g (off + num * 7) p q) (hn : num < np) :
    Calls Try.prog 16 #[.pointer (some ⟨cb, 0, none⟩), .int .i64 (num : Int)] w fun e w' => e = .returned (.pointer (some ⟨w.heap.size, 0, none⟩)) ∧ w' = w.alloc (.cells (foC cb num p q (.slice none 0 0) (.slice none 0 0)) 60) := by
  have d0 : w.cell? ⟨cb, 0, none⟩ = some (.slice (some ⟨g, off, none⟩) np sc) := cell_row h.ch (chC_0 _ _)
  have hs1 := h.s1
  have hs2 := h.s2
  obtain ⟨c0, c1, c2, c3, c4, c5, c6⟩ := hp
  clear h
  unfold foC
  go_enter Try.func16, Try.ntmps16
  go_wp2
  go_ret
  exact ⟨rfl, rfl⟩

/-- The frees of protos. -/
theorem ProtosAt.frees {w : World} {so : Option Addr} {np : Nat} {P : Nat → PR} {Q : Nat → Hd} (h : ProtosAt w so np P Q) : FreesAt w so np (fun i => (P i).free) := by
  rcases h with e | ⟨g, off, e, h⟩
  · exact .inl e
  · exact .inr ⟨g, off, e, fun j hj => (h j hj).1.c2⟩
theorem fr_new {w w' w1 : World} (h1 : Fr (fun _ => False) w w1) (h2 : Fr (fun k => w.heap.size ≤ k) w1 w') : Fr (fun _ => False) w w' :=
  h1.trans h2 (fun x hx e => by omega)

/-- One proto is gone through. -/
theorem walk_one (w : World) (cb pb g off np sc : Nat) (P : Nat → PR) (Q : Nat → Hd) (num : Nat) (hch : ChAt w cb pb (some ⟨g, off, none⟩) np sc (fun i => (P i).free)) (hP : ProtosAt w (some ⟨g, off, none⟩) np P Q) (hn : num < np) (R : Nat × Nat × (Nat → Int)) (hR : R = walkM np (fun i => (P i).free) num (P num)) :
    Calls Try.prog 17 #[.pointer (some ⟨w.heap.size, 0, none⟩)] (w.alloc (.cells (foC cb num (P num) (Q num) (.slice none 0 0) (.slice none 0 0)) 60)) fun e w' => e = .returned (.tuple #[.int .i64 (R.2.1 : Int), .int .i64 (R.1 : Int)]) ∧ WalkEnd w.heap.size w' w.heap.size (P num) R ∧ Fr (fun _ => False) w w' := by
  have hf : Fr (fun _ => False) w (w.alloc (.cells (foC cb num (P num) (Q num) (.slice none 0 0) (.slice none 0 0)) 60)) := (Fr.refl _ _).alloc _
  rcases hP with e | ⟨g', off', e, hh⟩
  · omega
  · cases e
    obtain ⟨h1, h2, h3⟩ := hh num hn
    refine (walk_any w.heap.size _ w.heap.size cb pb g off np sc (fun i => (P i).free) num (P num) (Q num) ⟨heap_alloc_new w _, hch.new hf (fun e => e) (fun e => e) (fun _ _ _ _ e => e), h2.fr hf (fun _ _ _ _ e => e), h3⟩ (Nat.le_refl _) (Array.getElem?_eq_some_iff.1 hch.ch).1 (Array.getElem?_eq_some_iff.1 hch.pr).1 h1.lt ?_ (h1.block (hf.block g h1.lt (fun e => e))) hn R hR).mono ?_
    · intro hl x hx
      rcases h2 with hz | ⟨g2, off2, e2, hc⟩
      · omega
      · rw [e2] at hx
        have := World.block_lt_of_cell? w _ (hc 0 (by omega)).1
        cases hx
        exact this
    · rintro e w' ⟨rfl, h4, h5⟩
      exact ⟨rfl, h4, fr_new hf h5⟩

theorem progM_step {np : Nat} {P : Nat → PR} {k n : Nat} {W : Nat × Nat × (Nat → Int)} (hW : W = walkM np (fun i => (P i).free) n (P n)) : progM np P (k + 1) n = if W.1 ≠ 0 then (n, W.2.1, W.1) else progM np P k (n + 1) := by
  subst hW
  rfl

set_option maxRecDepth 20000 in
set_option maxHeartbeats 1000000 in
theorem program_any (w : World) (so : Option Addr) (np sc : Nat) (P : Nat → PR) (Q : Nat → Hd) (hP : ProtosAt w so np P Q) (h1 : np ≤ sc) (h2 : sc ≤ 9223372036854775807) (R : Nat × Nat × Nat) (hR : R = programM np P) :
    Calls Try.prog 7 #[.slice so np sc] w fun e w' => e = .returned (.tuple #[.int .i64 (R.1 : Int), .int .i64 (R.2.1 : Int), .int .i64 (R.2.2 : Int)]) ∧ Fr (fun _ => False) w w' := by
  unfold programM at hR
  by_cases h0 : np = 0
  · subst h0
    rw [if_pos rfl] at hR
    subst hR
    clear hP
    go_enter Try.func7, Try.ntmps7
    go_wp2
    go_ret3
    exact ⟨rfl, Fr.refl _ _⟩
  · rw [if_neg h0] at hR
    have n0 : ((np : Int) == 0) = false := by rw [beq_eq_false_iff_ne]; omega
    have KC := checkerOf_any w so np sc
    have HKC := hide KC
    have HP := hide hP
    have HR := hide hR
    obtain ⟨g, off, rfl⟩ : ∃ g off, so = some ⟨g, off, none⟩ := by
      rcases hP with e | ⟨g, off, e, _⟩
      · exact absurd e h0
      · exact ⟨g, off, e⟩
    clear KC hP hR
    go_enter Try.func7, Try.ntmps7
    go_wp2_with (go_at_call 15; refine HKC.out.mono ?_; rintro e w1 ⟨cb, pb, rfl, hc1, hc2, -, -, F1⟩)
    have hch : ChAt w1 cb pb (some ⟨g, off, none⟩) np sc (fun i => (P i).free) := ⟨hc1, hc2, (HP.out.new F1).frees, h1, h2⟩
    have HCH := hide hch
    have HF1 := hide F1
    clear hch F1 hc1 hc2
    go_loopw [16] (fun u wr => ∃ i : Nat, u = .int .i64 (i : Int) ∧ i ≤ np ∧ R = progM np P (np - i) i ∧ Fr (fun _ => False) w1 wr) (fun u _ => np - (intOf u).toNat)
    case atStart => exact ⟨0, rfl, Nat.zero_le _, HR.out, Fr.refl _ _⟩
    case round =>
      obtain ⟨i, rfl, hi, hR, hF⟩ := hrel
      by_cases hil : i < np
      · obtain ⟨W, hW⟩ : ∃ W, W = walkM np (fun i => (P i).free) i (P i) := ⟨_, rfl⟩
        obtain ⟨k, hk⟩ : ∃ k, np - i = k + 1 := ⟨np - i - 1, by omega⟩
        have hk2 : np - (i + 1) = k := by omega
        rw [hk, progM_step hW] at hR
        have hch := HCH.out.new hF (fun e => e) (fun e => e) (fun _ _ _ _ e => e)
        have hPr := HP.out.new (HF1.out.trans hF (fun _ _ e => e))
        have KF : Calls Try.prog 16 #[.pointer (some ⟨cb, 0, none⟩), .int .i64 (i : Int)] wr fun e w' => e = .returned (.pointer (some ⟨wr.heap.size, 0, none⟩)) ∧ w' = wr.alloc (.cells (foC cb i (P i) (Q i) (.slice none 0 0) (.slice none 0 0)) 60) := by
          rcases hPr with e | ⟨g', off', e, hh⟩
          · omega
          · cases e
            exact find_any wr cb pb g off np sc _ i (P i) (Q i) hch (hh i hil).1 hil
        have KW := walk_one wr cb pb g off np sc P Q i hch hPr hil W hW
        have HKF := hide KF
        have HKW := hide KW
        have HF := hide hF
        have HK2 := hide hk2
        clear KF KW hF hch hPr hk hk2 hW
        by_cases hW0 : W.1 = 0
        · rw [if_neg (by simpa using hW0)] at hR
          have HRR := hide hR
          have g0 : ((W.1 : Int) != 0) = false := by rw [hW0]; rfl
          clear hR hW0
          go_wp2_with (first
            | (go_at_call 16; refine HKF.out.mono ?_; rintro e w2 ⟨rfl, rfl⟩)
            | (go_at_call 17; refine HKW.out.mono ?_; rintro e w3 ⟨rfl, -, F3⟩))
          exact ⟨⟨i + 1, by go_num, hil, by rw [HK2.out]; exact HRR.out, HF.out.trans F3 (fun _ _ e => e)⟩, by simp [intOf]; omega⟩
        · rw [if_pos hW0] at hR
          have HRR := hide hR
          have g0 : ((W.1 : Int) != 0) = true := by rw [bne_iff_ne]; omega
          clear hR hW0
          go_wp2_with (first
            | (go_at_call 16; refine HKF.out.mono ?_; rintro e w2 ⟨rfl, rfl⟩)
            | (go_at_call 17; refine HKW.out.mono ?_; rintro e w3 ⟨rfl, -, F3⟩))
          go_ret3
          exact ⟨by rw [HRR.out]; rfl, HF1.out.trans (HF.out.trans F3 (fun _ _ e => e)) (fun _ _ e => e)⟩
      · have e : i = np := by omega
        subst e
        rw [Nat.sub_self] at hR
        have HRR : Hid (R = (0, 0, 0)) := hR
        have HF := hide hF
        clear hR hF hil
        go_wp2
        go_ret3
        exact ⟨by rw [HRR.out]; rfl, HF1.out.trans HF.out (fun _ _ e => e)⟩

theorem progM_zero {np : Nat} {P : Nat → PR} : ∀ (k n : Nat), (progM np P k n).2.2 = 0 → ∀ i, n ≤ i → i < n + k → (walkM np (fun i => (P i).free) i (P i)).1 = 0
  | 0, n, _, i, h1, h2 => by omega
  | k + 1, n, h, i, h1, h2 => by
    rw [progM_step rfl] at h
    by_cases e : (walkM np (fun i => (P i).free) n (P n)).1 = 0
    · rw [if_neg (by simpa using e)] at h
      by_cases e2 : i = n
      · rw [e2]; exact e
      · exact progM_zero k (n + 1) h i (by omega) (by omega)
    · rw [if_pos e] at h
      exact absurd h e

set_option maxRecDepth 20000 in
set_option maxHeartbeats 1000000 in
theorem depths_no (w : World) (so : Option Addr) (np sc : Nat) (P : Nat → PR) (Q : Nat → Hd) (hP : ProtosAt w so np P Q) (h1 : np ≤ sc) (h2 : sc ≤ 9223372036854775807) (x : Int) (hx : x < 0 ∨ (np : Int) ≤ x ∨ (programM np P).2.2 ≠ 0) :
    Calls Try.prog 12 #[.slice so np sc, .int .i64 x] w fun e w' => e = .returned (.slice none 0 0) ∧ Fr (fun _ => False) w w' := by
  by_cases ha : x < 0
  · clear hx hP
    go_enter Try.func12, Try.ntmps12
    go_wp2
    go_ret
    exact ⟨rfl, Fr.refl _ _⟩
  · by_cases hb : (np : Int) ≤ x
    · clear hx hP
      go_enter Try.func12, Try.ntmps12
      go_wp2
      go_ret
      exact ⟨rfl, Fr.refl _ _⟩
    · have hz : (programM np P).2.2 ≠ 0 := by
        rcases hx with h | h | h
        · exact absurd h ha
        · exact absurd h hb
        · exact h
      obtain ⟨R, hR⟩ : ∃ R, R = programM np P := ⟨_, rfl⟩
      have KP := program_any w so np sc P Q hP h1 h2 R hR
      rw [← hR] at hz
      have g0 : ((R.2.2 : Int) != 0) = true := by rw [bne_iff_ne]; omega
      have HKP := hide KP
      clear KP hR hz hx hP
      go_enter Try.func12, Try.ntmps12
      go_wp2_with (go_at_call 7; refine HKP.out.mono ?_; rintro e w1 ⟨rfl, F1⟩)
      go_ret
      exact ⟨rfl, F1⟩

set_option maxRecDepth 20000 in
set_option maxHeartbeats 1000000 in
theorem depths_yes (w : World) (so : Option Addr) (np sc : Nat) (P : Nat → PR) (Q : Nat → Hd) (hP : ProtosAt w so np P Q) (h1 : np ≤ sc) (h2 : sc ≤ 9223372036854775807) (x : Nat) (hx : x < np) (hz : (programM np P).2.2 = 0) :
    Calls Try.prog 12 #[.slice so np sc, .int .i64 (x : Int)] w fun e w' => ∃ db, e = .returned (.slice (some ⟨db, 0, none⟩) (P x).len (P x).len) ∧ DepAt w' db (P x).len (walkM np (fun i => (P i).free) x (P x)).2.2 ∧ Fr (fun _ => False) w w' := by
  obtain ⟨R, hR⟩ : ∃ R, R = programM np P := ⟨_, rfl⟩
  have KP := program_any w so np sc P Q hP h1 h2 R hR
  obtain ⟨W, hW⟩ : ∃ W, W = walkM np (fun i => (P i).free) x (P x) := ⟨_, rfl⟩
  have hW0 : W.1 = 0 := by
    rw [hW]
    unfold programM at hz
    rw [if_neg (by omega)] at hz
    exact progM_zero np 0 hz x (by omega) (by omega)
  rw [← hR] at hz
  rw [hz] at KP
  obtain ⟨g, off, rfl⟩ : ∃ g off, so = some ⟨g, off, none⟩ := by
    rcases hP with e | ⟨g, off, e, _⟩
    · omega
    · exact ⟨g, off, e⟩
  have KC := fun (W1 : World) => checkerOf_any W1 (some ⟨g, off, none⟩) np sc
  have KF := fun (W1 : World) (cb pb : Nat) (hF : Fr (fun _ => False) w W1) (hch : ChAt W1 cb pb (some ⟨g, off, none⟩) np sc (fun i => (P i).free)) => show Calls Try.prog 16 #[.pointer (some ⟨cb, 0, none⟩), .int .i64 (x : Int)] W1 fun e w' => e = .returned (.pointer (some ⟨W1.heap.size, 0, none⟩)) ∧ w' = W1.alloc (.cells (foC cb x (P x) (Q x) (.slice none 0 0) (.slice none 0 0)) 60) by
    rcases hP.new hF with e | ⟨g', off', e, hh⟩
    · omega
    · cases e
      exact find_any W1 cb pb g off np sc _ x (P x) (Q x) hch (hh x hx).1 hx
  have KW := fun (W1 : World) (cb pb : Nat) (hF : Fr (fun _ => False) w W1) (hch : ChAt W1 cb pb (some ⟨g, off, none⟩) np sc (fun i => (P i).free)) => walk_one W1 cb pb g off np sc P Q x hch (hP.new hF) hx W hW
  rw [← hW]
  have HKP := hide KP
  have HKC := hide KC
  have HKF := hide KF
  have HKW := hide KW
  have HP := hide hP
  have HW0 := hide hW0
  clear KP KC KF KW hR hz hP hW hW0
  go_enter Try.func12, Try.ntmps12
  go_wp2_with (first
    | (go_at_call 7; refine HKP.out.mono ?_; rintro e w1 ⟨rfl, F1⟩; have HF1 := hide F1; clear F1)
    | (go_at_call 15; refine (HKC.out _).mono ?_; rintro e w2 ⟨cb, pb, rfl, hc1, hc2, -, -, F2⟩; have HF2 : Hid (Fr (fun _ => False) w w2) := hide (HF1.out.trans F2 (fun _ _ e => e)); have HCH : Hid (ChAt w2 cb pb (some ⟨g, off, none⟩) np sc (fun i => (P i).free)) := hide ⟨hc1, hc2, (HP.out.new HF2.out).frees, h1, h2⟩; clear hc1 hc2 F2)
    | (go_at_call 16; refine (HKF.out _ cb pb HF2.out HCH.out).mono ?_; rintro e w3 ⟨rfl, rfl⟩)
    | (go_at_call 17; refine (HKW.out _ cb pb HF2.out HCH.out).mono ?_; rintro e w4 ⟨rfl, h4, F4⟩; obtain ⟨db, q1, q2, q3⟩ := h4 HW0.out; have HD := hide q2; have HF4 : Hid (Fr (fun _ => False) w w4) := hide (HF2.out.trans F4 (fun _ _ e => e)); clear h4 q2 F4))
  go_ret
  exact ⟨db, rfl, HD.out, HF4.out⟩

end Go.Proofs.Ytmogglmofbbjlaa
