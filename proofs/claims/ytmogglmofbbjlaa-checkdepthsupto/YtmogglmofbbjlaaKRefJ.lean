/-
  What is proved here: the document's depths (tandemref11.Depths), for any protos; two rows of the same numbers are the same (tandemlaw00.SameInts).
-/
import Derived.Test.YtmogglmofbbjlaaKRefI
namespace Go.Proofs.Ytmogglmofbbjlaa
open Go Go.RowKit

set_option maxRecDepth 20000 in
set_option maxHeartbeats 1000000 in
theorem rdepths_no (w : World) (so : Option Addr) (np sc : Nat) (P : Nat → PR) (Q : Nat → Hd) (hP : ProtosAt w so np P Q) (h1 : np ≤ sc) (h2 : sc ≤ 9223372036854775807) (x : Int) (hx : x < 0 ∨ (np : Int) ≤ x ∨ (programM np P).2.2 ≠ 0) :
    Calls Try.prog 13 #[.slice so np sc, .int .i64 x] w fun e w' => e = .returned (.slice none 0 0) ∧ Fr (fun _ => False) w w' := by
  obtain ⟨R, hR⟩ : ∃ R, R = programM np P := ⟨_, rfl⟩
  rw [← hR] at hx
  have HKP := hide (rprogram_any w so np sc P Q hP h1 h2 R hR)
  clear hP hR
  by_cases hz : R.2.2 = 0
  · have g0 : ((R.2.2 : Int) != 0) = false := by rw [hz]; rfl
    have hin : isIn x 0 ((np : Int) - 1) = false := by
      unfold isIn
      rw [Bool.and_eq_false_iff]
      simp only [decide_eq_false_iff_not]
      omega
    have KI := fun (W : World) => rin_any x np W
    rw [hin] at KI
    have HKI := hide KI
    clear KI hin hx hz
    go_enter Try.func13, Try.ntmps13
    go_wp2_with (first
      | (go_at_call 9; refine HKP.out.mono ?_; rintro e1 w1 ⟨rfl, F1⟩; have HF1 := hide F1; clear F1)
      | (go_at_call 19; refine (HKI.out _).mono ?_; rintro e2 w2 ⟨rfl, rfl⟩))
    go_ret
    exact ⟨rfl, HF1.out⟩
  · have g0 : ((R.2.2 : Int) != 0) = true := by rw [bne_iff_ne]; omega
    clear hx hz
    go_enter Try.func13, Try.ntmps13
    go_wp2_with (first
      | (go_at_call 9; refine HKP.out.mono ?_; rintro e1 w1 ⟨rfl, F1⟩; have HF1 := hide F1; clear F1))
    go_ret
    exact ⟨rfl, HF1.out⟩

set_option maxRecDepth 20000 in
set_option maxHeartbeats 1000000 in
theorem rdepths_yes (w : World) (so : Option Addr) (np sc : Nat) (P : Nat → PR) (Q : Nat → Hd) (hP : ProtosAt w so np P Q) (h1 : np ≤ sc) (h2 : sc ≤ 9223372036854775807) (x : Nat) (hx : x < np) (hz : (programM np P).2.2 = 0) :
    Calls Try.prog 13 #[.slice so np sc, .int .i64 (x : Int)] w fun e w' => ∃ db, e = .returned (.slice (some ⟨db, 0, none⟩) (P x).len (P x).len) ∧ DepAt w' db (P x).len (walkM np (fun i => (P i).free) x (P x)).2.2 ∧ Fr (fun _ => False) w w' := by
  obtain ⟨R, hR⟩ : ∃ R, R = programM np P := ⟨_, rfl⟩
  have KP := rprogram_any w so np sc P Q hP h1 h2 R hR
  obtain ⟨W, hW⟩ : ∃ W, W = walkM np (fun i => (P i).free) x (P x) := ⟨_, rfl⟩
  have hW0 : W.1 = 0 := by
    rw [hW]
    unfold programM at hz
    rw [if_neg (by omega)] at hz
    exact progM_zero np 0 hz x (by omega) (by omega)
  have hh : headM x (P x) = true := by
    by_cases h : headM x (P x) = true
    · exact h
    · rw [hW] at hW0
      unfold walkM at hW0
      rw [if_neg h] at hW0
      cases hW0
  rw [← hR] at hz
  rw [hz] at KP
  obtain ⟨g, off, rfl⟩ : ∃ g off, so = some ⟨g, off, none⟩ := by
    rcases hP with e | ⟨g, off, e, _⟩
    · omega
    · exact ⟨g, off, e⟩
  have hin : isIn (x : Int) 0 ((np : Int) - 1) = true := by
    unfold isIn
    rw [Bool.and_eq_true]
    simp only [decide_eq_true_eq]
    omega
  have KI := fun (V : World) => rin_any (x : Int) np V
  rw [hin] at KI
  have HPR := hide (fun (V : World) (hF : Fr (fun _ => False) w V) => show PrAt V g (off + x * 7) (P x) (Q x) by
    rcases hP.new hF with e | ⟨g', off', e, hc⟩
    · omega
    · cases e
      exact (hc x hx).1)
  have HKW := hide (fun (V : World) (hF : Fr (fun _ => False) w V) => rwalk_one V (some ⟨g, off, none⟩) np sc P Q x (hP.new hF) h1 h2 hx hh W hW)
  rw [← hW]
  have HKP := hide KP
  have HKI := hide KI
  have HW0 := hide hW0
  clear KP KI hR hz hP hW hW0 hh hin
  go_enter Try.func13, Try.ntmps13
  go_wp2_with (first
    | (go_at_call 9; refine HKP.out.mono ?_; rintro e1 w1 ⟨rfl, F1⟩; have c0 := (HPR.out w1 F1).c0; have c1 := (HPR.out w1 F1).c1; have c2 := (HPR.out w1 F1).c2; have c3 := (HPR.out w1 F1).c3; have c4 := (HPR.out w1 F1).c4; have c5 := (HPR.out w1 F1).c5; have c6 := (HPR.out w1 F1).c6; have HF1 := hide F1; clear F1)
    | (go_at_call 19; refine (HKI.out _).mono ?_; rintro e2 w2 ⟨rfl, rfl⟩)
    | (go_at_call 20; refine (HKW.out _ HF1.out).mono ?_; rintro e3 w3 ⟨⟨v3, rfl, hv3⟩, F3⟩; obtain ⟨db, e4, hD⟩ := hv3 HW0.out; subst e4; have HD := hide hD; have HF3 := hide (HF1.out.trans F3 (fun _ _ e => e)); clear hv3 hD F3))
  go_ret
  exact ⟨db, rfl, HD.out, HF3.out⟩

set_option maxRecDepth 20000 in
theorem sameInts_nil (w : World) : Calls Try.prog 11 #[.slice none 0 0, .slice none 0 0] w fun e w' => e = .returned (.bool true) ∧ Fr (fun _ => False) w w' := by
  go_enter Try.func11, Try.ntmps11
  go_wp2
  go_loopw [5] (fun u wr => u = .int .i64 0 ∧ wr = w) (fun _ _ => 0)
  case atStart => exact ⟨rfl, rfl⟩
  case round =>
    obtain ⟨rfl, rfl⟩ := hrel
    go_wp2
    go_ret
    exact ⟨rfl, Fr.refl _ _⟩

set_option maxRecDepth 20000 in
theorem sameInts_dep (w : World) (b c n : Nat) (d : Nat → Int) (hb : DepAt w b n d) (hc : DepAt w c n d) (hn : n ≤ 9223372036854775807) : Calls Try.prog 11 #[.slice (some ⟨b, 0, none⟩) n n, .slice (some ⟨c, 0, none⟩) n n] w fun e w' => e = .returned (.bool true) ∧ Fr (fun _ => False) w w' := by
  have HB := hide hb
  have HC := hide hc
  clear hb hc
  go_enter Try.func11, Try.ntmps11
  go_wp2
  go_loopw [5] (fun u wr => ∃ i : Nat, u = .int .i64 (i : Int) ∧ i ≤ n ∧ Fr (fun _ => False) w wr) (fun u _ => n - (intOf u).toNat)
  case atStart => exact ⟨0, rfl, Nat.zero_le _, Fr.refl _ _⟩
  case round =>
    obtain ⟨i, rfl, hi, hF⟩ := hrel
    by_cases hil : i < n
    · have q1 := (HB.out.block (hF.block b HB.out.lt (fun e => e))).cell hil
      have q2 := (HC.out.block (hF.block c HC.out.lt (fun e => e))).cell hil
      have HF := hide hF
      clear hF
      go_wp2_with fail
      go_quiet (fail)
      go_wp2
      exact ⟨⟨i + 1, by go_num, hil, HF.out.drewN _⟩, by simp [intOf]; omega⟩
    · have e : i = n := by omega
      subst e
      have HF := hide hF
      have hil' : ¬ ((i : Int) < (i : Int)) := by omega
      clear hF hil
      go_wp2
      go_ret
      exact ⟨rfl, HF.out⟩

end Go.Proofs.Ytmogglmofbbjlaa
