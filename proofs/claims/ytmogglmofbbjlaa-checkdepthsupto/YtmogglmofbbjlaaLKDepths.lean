/-
  What is proved here: tandemlaw11.CheckDepths of any protos that lie there, and any number.
-/
import Derived.Test.YtmogglmofbbjlaaKRefJ
import Derived.Test.YtmogglmofbbjlaaLKPrograms
namespace Go.Proofs.Ytmogglmofbbjlaa
open Go Go.RowKit

set_option maxRecDepth 20000 in
set_option maxHeartbeats 2000000 in
theorem checkDepths_any (w : World) (so : Option Addr) (np sc N : Nat) (P : Nat → PR) (Q : Nat → Hd) (I : Nat → List (Tr N)) (L : Nat → List Value) (x : Int) (hP : ProtosAt w so np P Q) (hI : ∀ i, i < np → PIn w N (P i) (Q i) (I i) (L i)) (h1 : np ≤ sc) (h2 : sc ≤ 9223372036854775807) (h3 : np ≤ 10000000) :
    Calls Try.prog 4 #[.slice so np sc, .int .i64 x] w fun e w' => e = .returned (.bool true) ∧ Fr (fun _ => False) w w' := by
  have HKC := hide (copyProtos_any w so np sc N P Q I L hP hI h1 h2 h3)
  have HKA := hide (fun (W : World) => awake_any W)
  by_cases hok : 0 ≤ x ∧ x < (np : Int) ∧ (programM np P).2.2 = 0
  · obtain ⟨n, rfl⟩ : ∃ n : Nat, x = (n : Int) := ⟨x.toNat, by omega⟩
    have hn : n < np := by omega
    have hlen := (hI n hn).b1
    have hz := hok.2.2
    obtain ⟨D, hD⟩ : ∃ D, D = (walkM np (fun i => (P i).free) n (P n)).2.2 := ⟨_, rfl⟩
    have HKD := hide (fun (W : World) (so' : Option Addr) (sc' : Nat) (Q' : Nat → Hd) (hP' : ProtosAt W so' np P Q') (h1' : np ≤ sc') (h2' : sc' ≤ 9223372036854775807) => show Calls Try.prog 12 #[.slice so' np sc', .int .i64 (n : Int)] W fun e w' => ∃ db, e = .returned (.slice (some ⟨db, 0, none⟩) (P n).len (P n).len) ∧ DepAt w' db (P n).len D ∧ Fr (fun _ => False) W w' by rw [hD]; exact depths_yes W so' np sc' P Q' hP' h1' h2' n hn hz)
    have HKR := hide (fun (W : World) (hF : Fr (fun _ => False) w W) => show Calls Try.prog 13 #[.slice so np sc, .int .i64 (n : Int)] W fun e w' => ∃ db, e = .returned (.slice (some ⟨db, 0, none⟩) (P n).len (P n).len) ∧ DepAt w' db (P n).len D ∧ Fr (fun _ => False) W w' by rw [hD]; exact rdepths_yes W so np sc P Q (hP.new hF) h1 h2 n hn hz)
    have HKS := hide (fun (W : World) (b c : Nat) (hb : DepAt W b (P n).len D) (hc : DepAt W c (P n).len D) => sameInts_dep W b c (P n).len D hb hc (by omega))
    clear hP hI hok hz hD
    go_enter Try.func4, Try.ntmps4
    go_wp2_with (first
      | (go_at_call 8; refine HKC.out.mono ?_; rintro e1 w1 ⟨so1, sc1, Q1, rfl, m1, m2, hP1, F1⟩; have HP1 := hide hP1; have HF1 := hide F1; clear hP1 F1)
      | (go_at_call 12; refine (HKD.out _ _ _ _ HP1.out m1 m2).mono ?_; rintro e2 w2 ⟨b2, rfl, hd2, F2⟩; have HF2 := hide (HF1.out.trans F2 (fun _ _ e => e)); have HD2 := hide hd2; clear F2 hd2)
      | (go_at_call 13; refine (HKR.out _ HF2.out).mono ?_; rintro e3 w3 ⟨b3, rfl, hd3, F3⟩; have HF3 := hide (HF2.out.trans F3 (fun _ _ e => e)); have HD3 := hide hd3; have HD2' := hide (HD2.out.block (F3.block b2 HD2.out.lt (fun e => e))); clear F3 hd3)
      | (go_at_call 11; refine (HKS.out _ _ _ HD2'.out HD3.out).mono ?_; rintro e5 w5 ⟨rfl, F5⟩; have HF5 := hide (HF3.out.trans F5 (fun _ _ e => e)); clear F5)
      | (go_at_call 10; refine (HKA.out _).mono ?_; rintro e4 w4 ⟨rfl, F4⟩; have HF4 := hide (HF5.out.trans F4 (fun _ _ e => e)); clear F4))
    go_ret
    exact ⟨rfl, HF4.out⟩
  · have hx : x < 0 ∨ (np : Int) ≤ x ∨ (programM np P).2.2 ≠ 0 := by omega
    have HKD := hide (fun (W : World) (so' : Option Addr) (sc' : Nat) (Q' : Nat → Hd) (hP' : ProtosAt W so' np P Q') (h1' : np ≤ sc') (h2' : sc' ≤ 9223372036854775807) => depths_no W so' np sc' P Q' hP' h1' h2' x hx)
    have HKR := hide (fun (W : World) (hF : Fr (fun _ => False) w W) => rdepths_no W so np sc P Q (hP.new hF) h1 h2 x hx)
    have HKS := hide (fun (W : World) => sameInts_nil W)
    clear hP hI hok hx
    go_enter Try.func4, Try.ntmps4
    go_wp2_with (first
      | (go_at_call 8; refine HKC.out.mono ?_; rintro e1 w1 ⟨so1, sc1, Q1, rfl, m1, m2, hP1, F1⟩; have HP1 := hide hP1; have HF1 := hide F1; clear hP1 F1)
      | (go_at_call 12; refine (HKD.out _ _ _ _ HP1.out m1 m2).mono ?_; rintro e2 w2 ⟨rfl, F2⟩; have HF2 := hide (HF1.out.trans F2 (fun _ _ e => e)); clear F2)
      | (go_at_call 13; refine (HKR.out _ HF2.out).mono ?_; rintro e3 w3 ⟨rfl, F3⟩; have HF3 := hide (HF2.out.trans F3 (fun _ _ e => e)); clear F3)
      | (go_at_call 11; refine (HKS.out _).mono ?_; rintro e5 w5 ⟨rfl, F5⟩; have HF5 := hide (HF3.out.trans F5 (fun _ _ e => e)); clear F5)
      | (go_at_call 10; refine (HKA.out _).mono ?_; rintro e4 w4 ⟨rfl, F4⟩; have HF4 := hide (HF5.out.trans F4 (fun _ _ e => e)); clear F4))
    go_ret
    exact ⟨rfl, HF4.out⟩

end Go.Proofs.Ytmogglmofbbjlaa
