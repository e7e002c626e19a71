/-
  What is proved here: awake of the statements of package value.
-/
import Derived.Test.YtchdfenickjiiaaVIntern2
namespace Go.Proofs.Ytchdfenickjiiaa
open Go Go.RowKit

theorem StoreAt.sym {w : World} {sb hb : Nat} {X : Nat → Prop} {mb : Nat} {sz : Nat} {tm : Int} {n : Nat} {f : Nat → Nat} {st : Nat → Bool} (h : StoreAt w sb hb X (.slice none 0 0) mb tm sz tm n f st) (hm : w.heap[mb]? = some (.map #[] 0)) (sw : Nat → Nat) (nm : Nat → ByteArray) : SymIn w sb hb X (.slice none 0 0) mb 0 sw nm sz tm n f st :=
  ⟨h, .inl ⟨rfl, rfl⟩, (fun g e => by cases e), ⟨.map [], ⟨#[], 0, hm, ⟨by simp, MapKept.stamped_empty 0, by simp⟩, Nat.le_refl _, rfl⟩, Knows.none nm⟩, Nat.zero_le _⟩

set_option maxRecDepth 20000 in
set_option maxHeartbeats 2000000 in
theorem vawake_any (w : World) :
    Calls Try.prog 14 #[] w fun e w' => e = .returned (.bool true) ∧ Fr (fun _ => False) w w' := by
  have KF := vfix_yes (-1) w (by decide) (by decide)
  have KN := vnew_ok 50 w (by decide) (by decide)
  have K1 := fun (w1 : World) (sb hb : Nat) (X : Nat → Prop) (mb : Nat) (h : SymIn w1 sb hb X (.slice none 0 0) mb 0 (fun _ => 0) (fun _ => ⟨#[]⟩) 50 0 1 (fun _ => 0) (fun _ => false)) => intern_new w1 sb hb X _ mb 0 _ _ 50 0 1 _ _ h ⟨#[97]⟩ (fun i hi => by omega) (by decide) (by decide)
  have K2 := fun (w1 : World) (sb hb : Nat) (X : Nat → Prop) (vS : Value) (mb : Nat) (h : SymIn w1 sb hb X vS mb (0 + 1) (upd (fun _ => 0) 0 (4 * symN 1 ⟨#[97]⟩)) (updB (fun _ => ⟨#[]⟩) 0 ⟨#[97]⟩) 50 0 (symN 1 ⟨#[97]⟩ + 1 + 1 + 0) (symF (fun _ => 0) 1 ⟨#[97]⟩) (also (also (fun _ => false) 1) (symN 1 ⟨#[97]⟩))) => intern_old w1 sb hb X vS mb (0 + 1) _ _ 50 0 _ _ _ h 0 (by decide) (by decide)
  have HK1 := hide K1
  have HK2 := hide K2
  clear K1 K2
  go_enter Try.func14, Try.ntmps14
  go_wp2_with (first
    | (go_at_call 10; refine KF.mono ?_; rintro e w1 ⟨rfl, hw⟩; replace hw := hw.symm; subst hw)
    | (go_at_call 15; refine KN.mono ?_; rintro e w1 ⟨sb, hb, X, mb, rfl, S1, M1, X1, s1, m1, F1⟩; have HS1 := hide (S1.sym M1 (fun _ => 0) (fun _ => ⟨#[]⟩)); have HX1 := hide (And.intro X1 (And.intro s1 m1)); have HF1 := hide F1; clear S1 M1 X1 s1 m1 F1 KN)
    | (go_at_call 16; refine (HK2.out _ _ _ _ _ _ HS2.out).mono ?_; rintro e w3 ⟨rfl, q3, hq3⟩)
    | (go_at_call 16; refine (HK1.out _ _ _ _ _ HS1.out).mono ?_; rintro e w2 ⟨rfl, X2, v2, S2, F2, G2⟩; have HS2 := hide S2; have HF2 := hide F2; have HG2 := hide G2; clear S2 F2 G2))
  go_ret
  have hb1 : ((4 * (symN 1 ⟨#[97]⟩ : Int)) == ((upd (fun _ => 0) 0 (4 * symN 1 ⟨#[97]⟩) 0 : Nat) : Int)) = true := by rw [upd_same]; simp
  refine ⟨congrArg (fun b => Ending.returned (.bool b)) hb1, ?_⟩
  refine (Fr.trans HF1.out HF2.out (fun k hk e => ?_)).drewN q3
  have hx := HX1.out
  rcases e with e | e | e | e
  · have := hx.1 k e; omega
  · omega
  · omega
  · cases e

end Go.Proofs.Ytchdfenickjiiaa
