/-
  What is proved here: tandemlaw02.NumProducts answers true for all lists of numbers of up to 2^20 limbs and numbers together.
-/
import Derived.Test.YtdiacbfdfoeemaaDoorNLists
import Derived.Test.YtdiacbfdfoeemaaDoorNProd2
import Derived.Test.YtdiacbfdfoeemaaDoorR2Mul
namespace Go.Proofs.YtdiacbfdfoeemaaDoor
open Go Go.RowKit

set_option maxRecDepth 4000 in
set_option maxHeartbeats 4000000 in
theorem products_walk (mo : Option Addr) (k cap : Nat) (vs : Nat → Value) (bs : Nat → Bool) (ns : Nat → Nat) (fs : Nat → Nat → Nat) (w : World) (hr : RdN w mo k vs bs) (hs : ∀ i, i < k → Sl .u32 w (vs i) (ns i) (fs i)) (hd : ∀ j, j < k → ∀ i, i < ns j → fs j i < 4294967296)
    (hk : k ≤ 1048576) (hns : ∀ j, j < k → ns j ≤ 1048576) (hsum : sumN ns k ≤ 1048576) (htab : Tab w) :
    Calls Tryd.prog 4 #[.slice mo k cap] w fun e w' => e = .returned (.bool true) ∧ Up w w' := by
  have HX := hide (show ∀ j, j < k → RdD ((fun j => sgn (bs j) (num 4294967296 (fs j) (ns j))) j) 1048576 w (.agg #[.bool (bs j), vs j]) from fun j hj => ⟨bs j, ns j, fs j, ⟨_, rfl, hs j hj⟩, hd j hj, hns j hj, rfl⟩)
  have HX2 := hide (show ∀ j, j < k → RdD ((fun j => sgn (bs j) (num 4294967296 (fs j) (ns j))) j) (ns j) w (.agg #[.bool (bs j), vs j]) from fun j hj => ⟨bs j, ns j, fs j, ⟨_, rfl, hs j hj⟩, hd j hj, Nat.le_refl _, rfl⟩)
  generalize (fun j => sgn (bs j) (num 4294967296 (fs j) (ns j))) = Xs at HX HX2
  have HT := hide htab
  have HR := hide hr
  clear hs hd hns htab hr
  go_enter Tryd.func4, Tryd.ntmps4
  go_wp2_with fail
  refine (all_any mo k cap 1048576 vs bs Xs _ (unhide HR) (unhide HX) hk (Nat.le_refl _)).mono ?_
  rintro e w1 ⟨mo1, cap1, vs1, bs1, rfl, hr1, hx1, u1⟩
  have H1 := hide (And.intro hr1 hx1)
  clear hr1 hx1
  go_wp2_with fail
  refine (muln_rd mo1 k cap1 1048576 vs1 bs1 Xs _ (unhide H1).1 (unhide H1).2 (by omega) (by omega)).mono ?_
  rintro e w2 ⟨v2, rfl, n2, u2⟩
  obtain ⟨b2, ao2, m2, cap2, rfl⟩ := (n2.rd (Nat.le_refl _)).agg
  have C2 := hide n2
  clear n2
  have U2 := u1.tr u2
  go_wp2_with fail
  refine (r2mul_any mo k cap vs bs ns Xs _ ((unhide HR).upN U2) (fun j hj => (unhide HX2 j hj).up U2) (by omega) hk).mono ?_
  rintro e w3 ⟨v3, rfl, n3, u3⟩
  obtain ⟨b3, ao3, m3, cap3, rfl⟩ := (n3.rd (Nat.le_refl _)).agg
  have C3 := hide n3.rc
  clear n3
  go_wp2_with fail
  refine (same_rd ((unhide C2).up u3) (unhide C3) rfl).mono ?_
  rintro e w4 ⟨v4, rfl, rfl, u4⟩
  have U4 := U2.tr (u3.tr u4)
  go_wp2_with fail
  refine (awake_any _ ((unhide HT).up U4)).mono ?_
  rintro e w5 ⟨rfl, u5⟩
  go_wp2_with fail
  go_ret
  exact ⟨rfl, U4.tr u5⟩

end Go.Proofs.YtdiacbfdfoeemaaDoor
