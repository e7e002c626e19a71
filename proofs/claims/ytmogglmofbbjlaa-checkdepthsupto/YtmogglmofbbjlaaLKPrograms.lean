/-
  What is proved here: tandemlaw11.CheckPrograms of any protos that lie there.
-/
import Derived.Test.YtmogglmofbbjlaaKRefI
import Derived.Test.YtmogglmofbbjlaaKCopyB
import Derived.Test.YtmogglmofbbjlaaKLaw
namespace Go.Proofs.Ytmogglmofbbjlaa
open Go Go.RowKit

set_option maxRecDepth 20000 in
set_option maxHeartbeats 2000000 in
theorem checkPrograms_any (w : World) (so : Option Addr) (np sc N : Nat) (P : Nat → PR) (Q : Nat → Hd) (I : Nat → List (Tr N)) (L : Nat → List Value) (hP : ProtosAt w so np P Q) (hI : ∀ i, i < np → PIn w N (P i) (Q i) (I i) (L i)) (h1 : np ≤ sc) (h2 : sc ≤ 9223372036854775807) (h3 : np ≤ 10000000) :
    Calls Try.prog 3 #[.slice so np sc] w fun e w' => e = .returned (.bool true) ∧ Fr (fun _ => False) w w' := by
  obtain ⟨R, hR⟩ : ∃ R, R = programM np P := ⟨_, rfl⟩
  have HKC := hide (copyProtos_any w so np sc N P Q I L hP hI h1 h2 h3)
  have HKP := hide (fun (W : World) (so' : Option Addr) (sc' : Nat) (Q' : Nat → Hd) (hP' : ProtosAt W so' np P Q') (h1' : np ≤ sc') (h2' : sc' ≤ 9223372036854775807) => program_any W so' np sc' P Q' hP' h1' h2' R hR)
  have HKR := hide (fun (W : World) (hF : Fr (fun _ => False) w W) => rprogram_any W so np sc P Q (hP.new hF) h1 h2 R hR)
  have HKA := hide (fun (W : World) => awake_any W)
  clear hP hI hR
  go_enter Try.func3, Try.ntmps3
  go_wp2_with (first
    | (go_at_call 8; refine HKC.out.mono ?_; rintro e1 w1 ⟨so1, sc1, Q1, rfl, m1, m2, hP1, F1⟩; have HP1 := hide hP1; have HF1 := hide F1; clear hP1 F1)
    | (go_at_call 7; refine (HKP.out _ _ _ _ HP1.out m1 m2).mono ?_; rintro e2 w2 ⟨rfl, F2⟩; have HF2 := hide (HF1.out.trans F2 (fun _ _ e => e)); clear F2)
    | (go_at_call 9; refine (HKR.out _ HF2.out).mono ?_; rintro e3 w3 ⟨rfl, F3⟩; have HF3 := hide (HF2.out.trans F3 (fun _ _ e => e)); clear F3)
    | (go_at_call 10; refine (HKA.out _).mono ?_; rintro e4 w4 ⟨rfl, F4⟩; have HF4 := hide (HF3.out.trans F4 (fun _ _ e => e)); clear F4))
  go_ret
  exact ⟨rfl, HF4.out⟩

end Go.Proofs.Ytmogglmofbbjlaa
