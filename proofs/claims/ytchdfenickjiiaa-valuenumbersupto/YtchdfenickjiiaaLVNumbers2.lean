/-
  What is proved here: the walk of ValueNumbers, of whatever two numbers.
-/
import Derived.Test.YtchdfenickjiiaaLVNumbers
namespace Go.Proofs.Ytchdfenickjiiaa
open Go Go.RowKit

theorem canon_far {Z : Int} {M : Nat} {w : World} {a : Value} (h : RdD Z M w a) (hM : 2 * M + 1 ≤ 10000000000) (hl : Far Z) :
    Calls Try.prog 23 #[a] w fun e w' => ∃ b ao n cap, e = .returned (.agg #[.bool b, .slice ao n cap]) ∧ 256 < n ∧ Up w w' := by
  refine (r2canon_rd h hM).mono fun e w' he => ?_
  obtain ⟨v, h1, ⟨b, n, f, ⟨v', rfl, k1⟩, k2, k3, k4⟩, h3⟩ := he
  obtain ⟨ao, cap, rfl, -⟩ := id k1.sl
  exact ⟨b, ao, n, cap, h1, hl _ _ _ k2 k4, h3⟩

set_option maxRecDepth 100000 in
set_option maxHeartbeats 4000000 in
theorem valueNumbers_far1 (ba bu : Bool) (aa au : Option Addr) (na nu ca cu M : Nat) (Za Zu : Int) (w : World) (ha : RdD Za M w (.agg #[.bool ba, .slice aa na ca])) (hu : RdD Zu M w (.agg #[.bool bu, .slice au nu cu])) (hM : M ≤ 2000000) (la : Far Za) :
    Calls Try.prog 5 #[.agg #[.bool ba, .slice aa na ca], .agg #[.bool bu, .slice au nu cu]] w fun e w' => e = .returned (.bool true) ∧ Below w.heap.size w w' := by
  have KNew := fun w1 => vnew_ok 4000 w1 (by decide) (by decide)
  have HA := hide ha
  have HU := hide hu
  have HLa := hide la
  clear ha hu la
  go_enter Try.func5, Try.ntmps5
  go_wp2_with (first
    | (go_at_call 15; refine (KNew _).mono ?_; rintro e w1 ⟨sb, hb, X, mb, rfl, St, _, hX, _, _, F1⟩; have V1 := VN.start St hX F1; have HV1 := hide V1; obtain ⟨a0, a1, u0, u1⟩ := V1.ca; have s1 := V1.S; clear V1 St hX F1)
    | (go_at_call 20; refine (used_any _ _ _ _ _ _ _ _ HV1.out.H).mono ?_; rintro e w2 ⟨rfl, q2, rfl⟩))
  have V2 := HV1.out.up (up_drewN w1 q2)
  generalize w1.drewN q2 = W2 at *
  clear HV1 a0 a1 u0 u1 s1
  have V2d := V2.up (up_drew W2)
  obtain ⟨a0, a1, u0, u1⟩ := V2.ca
  have HV2 := hide V2d
  have HRa := fun (W : World) (h : Below w.heap.size w W) => HA.out.up h
  have HRu := fun (W : World) (h : Below w.heap.size w W) => HU.out.up h
  have HRA := hide HRa
  have HRU := hide HRu
  clear V2 V2d HRa HRu
  go_region_held3 (fun w' => w'.cell? ⟨w.heap.size, 0, none⟩ = some (.bool ba) ∧ w'.cell? ⟨w.heap.size, 1, none⟩ = some (.slice aa na ca)) (go_keep)
    (first
      | (go_at_call 22; refine (copy_rd (HRA.out _ HV2.out.U) (by omega)).mono ?_; rintro e w3 ⟨f3, ao3, cp3, rfl, C3⟩; have V3 := HV2.out.up C3.U; obtain ⟨a30, a31, u30, u31⟩ := V3.ca; have HV3 := hide V3; have HC3 := hide C3; clear V3 C3)
      | (go_at_call 21; refine (number_far w3 sb hb X 4000 0 1 _ _ _ M Za HV3.out.H HC3.out.rd (by omega) (far_big HC3.out.rd HLa.out) HLa.out).mono ?_; rintro e w4 ⟨rfl, _, F4⟩; have V4 := HV3.out.up F4.up; obtain ⟨a40, a41, u40, u41⟩ := V4.ca; have HV4 := hide V4; clear V4 F4))
  clear a0 a1 u0 u1 a30 a31 u30 u31
  have hs4 := HV4.out.S
  have hfl := field1
  go_wp2_with (first
    | (go_at_call 23; refine (canon_far (HRA.out _ HV4.out.U) (by omega) HLa.out).mono ?_; rintro e w5 ⟨b5, ao5, n5, cap5, rfl, h5, u5⟩; have V5 := HV4.out.up u5; clear u5; obtain ⟨a50, a51, u50, u51⟩ := V5.ca; have s5 := V5.S; have HV5 := hide V5; clear V5; have g5 : (256 : Int) < (n5 : Int) := (by omega))
    | (go_at_call 20; refine (used_any _ _ _ _ _ _ _ _ HV5.out.H).mono ?_; rintro e w8 ⟨rfl, q8, rfl⟩; have HV8 := hide (HV5.out.up (up_drewN w5 q8)))
    | (go_at_call 14; refine (vawake_any _).mono ?_; rintro e w20 ⟨rfl, F20⟩; have HV20 := hide (HV8.out.up F20.up); clear F20))
  go_ret
  exact ⟨rfl, HV20.out.U⟩

set_option maxRecDepth 100000 in
set_option maxHeartbeats 4000000 in
theorem valueNumbers_far2 (ba bu : Bool) (aa au : Option Addr) (na nu ca cu M : Nat) (Za Zu : Int) (w : World) (ha : RdD Za M w (.agg #[.bool ba, .slice aa na ca])) (hu : RdD Zu M w (.agg #[.bool bu, .slice au nu cu])) (hM : M ≤ 2000000) (la : Lim Za) (lu : Far Zu) :
    Calls Try.prog 5 #[.agg #[.bool ba, .slice aa na ca], .agg #[.bool bu, .slice au nu cu]] w fun e w' => e = .returned (.bool true) ∧ Below w.heap.size w w' := by
  have KNew := fun w1 => vnew_ok 4000 w1 (by decide) (by decide)
  have HA := hide ha
  have HU := hide hu
  have HLa := hide la
  have HLu := hide lu
  clear ha hu la lu
  go_enter Try.func5, Try.ntmps5
  go_wp2_with (first
    | (go_at_call 15; refine (KNew _).mono ?_; rintro e w1 ⟨sb, hb, X, mb, rfl, St, _, hX, _, _, F1⟩; have V1 := VN.start St hX F1; have HV1 := hide V1; obtain ⟨a0, a1, u0, u1⟩ := V1.ca; have s1 := V1.S; clear V1 St hX F1)
    | (go_at_call 20; refine (used_any _ _ _ _ _ _ _ _ HV1.out.H).mono ?_; rintro e w2 ⟨rfl, q2, rfl⟩))
  have V2 := HV1.out.up (up_drewN w1 q2)
  generalize w1.drewN q2 = W2 at *
  clear HV1 a0 a1 u0 u1 s1
  have V2d := V2.up (up_drew W2)
  obtain ⟨a0, a1, u0, u1⟩ := V2.ca
  have HV2 := hide V2d
  have HRa := fun (W : World) (h : Below w.heap.size w W) => HA.out.up h
  have HRu := fun (W : World) (h : Below w.heap.size w W) => HU.out.up h
  have HRA := hide HRa
  have HRU := hide HRu
  clear V2 V2d HRa HRu
  go_region_held3 (fun w' => w'.cell? ⟨w.heap.size, 0, none⟩ = some (.bool ba) ∧ w'.cell? ⟨w.heap.size, 1, none⟩ = some (.slice aa na ca)) (go_keep)
    (first
      | (go_at_call 22; refine (copy_rd (HRA.out _ HV2.out.U) (by omega)).mono ?_; rintro e w3 ⟨f3, ao3, cp3, rfl, C3⟩; have V3 := HV2.out.up C3.U; obtain ⟨a30, a31, u30, u31⟩ := V3.ca; have HV3 := hide V3; have HC3 := hide C3; clear V3 C3)
      | (go_at_call 21; refine (number_any w3 sb hb X 4000 0 1 _ _ _ M Za HV3.out.H HV3.out.S HV3.out.nX HC3.out.rd (by omega) HLa.out (by decide)).mono ?_; rintro e w4 ⟨x, X4, n4, f4, st4, rfl, N4⟩; have V4 := HV3.out.numb N4; obtain ⟨a40, a41, u40, u41⟩ := V4.ca; have HN4 := hide N4; have HV4 := hide V4; clear V4 N4))
  clear a0 a1 u0 u1 a30 a31 u30 u31
  have hs4 := HV4.out.S
  have hfl := field1
  go_wp2_with (first
    | (go_at_call_of 23 (Value.agg #[Value.bool ba, Value.slice aa na ca]); refine (canon_near (HRA.out _ HV4.out.U) (by omega) HLa.out).mono ?_; rintro e w5 ⟨b5, ao5, n5, cap5, rfl, h5, _, u5⟩; have V5 := HV4.out.up u5; clear u5; obtain ⟨a50, a51, u50, u51⟩ := V5.ca; have s5 := V5.S; have HV5 := hide V5; clear V5; have g5 : ¬ (256 : Int) < (n5 : Int) := (by omega))
    | (go_at_call_of 23 (Value.agg #[Value.bool bu, Value.slice au nu cu]); refine (canon_far (HRU.out _ HV5.out.U) (by omega) HLu.out).mono ?_; rintro e w6 ⟨b6, ao6, n6, cap6, rfl, h6, u6⟩; have V6 := HV5.out.up u6; clear u6; obtain ⟨a60, a61, u60, u61⟩ := V6.ca; have s6 := V6.S; have HV6 := hide V6; clear V6; have g6 : (256 : Int) < (n6 : Int) := (by omega))
    | (go_at_call 14; refine (vawake_any _).mono ?_; rintro e w20 ⟨rfl, F20⟩; have HV20 := hide (HV6.out.up F20.up); clear F20))
  go_ret
  exact ⟨rfl, HV20.out.U⟩

theorem valueNumbers_any (a u : Value) (b1 b2 : Bool) (n1 n2 : Nat) (f1 f2 : Nat → Nat) (w : World) (ha : Nm w a b1 n1 f1) (hu : Nm w u b2 n2 f2) (d1 : ∀ i, i < n1 → f1 i < 4294967296) (d2 : ∀ i, i < n2 → f2 i < 4294967296) (l1 : n1 ≤ 1048576) (l2 : n2 ≤ 1048576) :
    Calls Try.prog 5 #[a, u] w fun e w' => e = .returned (.bool true) ∧ Below w.heap.size w w' := by
  have Ra : RdD (sgn b1 (num 4294967296 f1 n1)) 1048576 w a := ⟨b1, n1, f1, ha, d1, l1, rfl⟩
  have Ru : RdD (sgn b2 (num 4294967296 f2 n2)) 1048576 w u := ⟨b2, n2, f2, hu, d2, l2, rfl⟩
  obtain ⟨va, rfl, sa⟩ := ha
  obtain ⟨vu, rfl, su⟩ := hu
  obtain ⟨aa, ca, rfl, -⟩ := id sa
  obtain ⟨au, cu, rfl, -⟩ := id su
  rcases lim_or Ra with la | la
  · rcases lim_or Ru with lu | lu
    · exact valueNumbers_near b1 b2 aa au n1 n2 ca cu 1048576 _ _ w Ra Ru (by decide) la lu
    · exact valueNumbers_far2 b1 b2 aa au n1 n2 ca cu 1048576 _ _ w Ra Ru (by decide) la lu
  · exact valueNumbers_far1 b1 b2 aa au n1 n2 ca cu 1048576 _ _ w Ra Ru (by decide) la

end Go.Proofs.Ytchdfenickjiiaa
