/-
  What is proved here: the statement ValueRoom's walk.
-/
import Derived.Test.YtenkidbimhmkbaaLVRoom0
import Derived.Test.YtenkidbimhmkbaaLVRoom1
import Derived.Test.YtenkidbimhmkbaaLVRoom2
import Derived.Test.YtenkidbimhmkbaaLVRoom3
namespace Go.Proofs.Ytenkidbimhmkbaa
open Go Go.RowKit

theorem valueRoom_walk (wd kd : Int) (v : Value) (l : Nat) (g : Nat → Int) (s : ByteArray) (w : World) (hs : SlI .i64 w v l g) (hg : ∀ i, i < l → -9223372036854775808 ≤ g i ∧ g i ≤ 9223372036854775807) (hl : l ≤ 17592186044416) (hsz : s.size ≤ 140737488351232) (hw1 : -9223372036854775808 ≤ wd) (hw2 : wd ≤ 9223372036854775807) (hk1 : -9223372036854775808 ≤ kd) (hk2 : kd ≤ 9223372036854775807) :
    Calls Try.prog 6 #[.int .i64 wd, v, .string s, .int .i64 kd] w fun e w' => e = .returned (.bool true) ∧ Below w.heap.size w w' := by
  have hs' := hs
  obtain ⟨ao, cap, rfl, _, _, _⟩ := hs'
  obtain ⟨m, hm⟩ : ∃ m, m = (wd % ((60 : Nat) : Int)).toNat := ⟨_, rfl⟩
  rcases (show (kd % ((4 : Nat) : Int)).toNat = 0 ∨ (kd % ((4 : Nat) : Int)).toNat = 1 ∨ (kd % ((4 : Nat) : Int)).toNat = 2 ∨ (kd % ((4 : Nat) : Int)).toNat = 3 by omega) with hk | hk | hk | hk
  · by_cases h : 1 + 3 * l ≤ 4 + m
    · exact valueRoom_0_yes wd kd ao l cap g s w hs hg hl hsz hw1 hw2 hk1 hk2 m hm hk h
    · exact valueRoom_0_no wd kd ao l cap g s w hs hg hl hsz hw1 hw2 hk1 hk2 m hm hk (by omega)
  · by_cases h : 1 + 1 + l + 0 ≤ 4 + m
    · exact valueRoom_1_yes wd kd ao l cap g s w hs hg hl hsz hw1 hw2 hk1 hk2 m hm hk h
    · exact valueRoom_1_no wd kd ao l cap g s w hs hg hl hsz hw1 hw2 hk1 hk2 m hm hk (by omega)
  · by_cases h : symN 1 s ≤ 4 + m
    · exact valueRoom_2_yes wd kd ao l cap g s w hs hg hl hsz hw1 hw2 hk1 hk2 m hm hk h
    · exact valueRoom_2_no wd kd ao l cap g s w hs hg hl hsz hw1 hw2 hk1 hk2 m hm hk (by omega)
  · by_cases h : symN 1 s + 1 + 1 + 0 ≤ 4 + m
    · exact valueRoom_3_yes wd kd ao l cap g s w hs hg hl hsz hw1 hw2 hk1 hk2 m hm hk h
    · exact valueRoom_3_no wd kd ao l cap g s w hs hg hl hsz hw1 hw2 hk1 hk2 m hm hk (by omega)

end Go.Proofs.Ytenkidbimhmkbaa
