/-
  What is proved here: tandemlaw01.NatTexts answers true, whatever list and whatever text of at most 1048576 limbs and letters it is handed, and turns nothing that was there.
-/
import Derived.Test.YtpagphcioeefdaaDoorRText
import Derived.Test.YtpagphcioeefdaaDoorRParse
import Derived.Test.YtpagphcioeefdaaDoorTabs
import Derived.Test.YtpagphcioeefdaaDoorUp
namespace Go.Proofs.YtpagphcioeefdaaDoor
open Go Go.RowKit

/-- What both parsers answer. -/
def Reads (B : Bool) (X : Nat) (w : World) (e : Ending) (w' : World) : Prop :=
  ∃ (v : Value) (n : Nat) (f : Nat → Nat), e = .returned (.tuple #[v, .bool B]) ∧ Own .u32 41 w' w.heap.size v n f ∧ Up w w' ∧ Can 4294967296 f n ∧ num 4294967296 f n = X

set_option maxRecDepth 4000 in
set_option maxHeartbeats 4000000 in
theorem texts_walk' (v : Value) (s : ByteArray) (B : Bool) (X : Nat) (n : Nat) (f : Nat → Nat) (w : World) (hv : Sl .u32 w v n f)
    (hf : ∀ i, i < n → f i < 4294967296) (hn : n ≤ 1048576) (htab : Tab w)
    (HP : ∀ w, Calls Tryd.prog 27 #[.string s] w fun e w' => Reads B X w e w') (HR : ∀ w, Calls Tryd.prog 28 #[.string s] w fun e w' => Reads B X w e w') :
    Calls Tryd.prog 7 #[v, .string s] w fun e w' => e = .returned (.bool true) ∧ Below w.heap.size w w' := by
  have HHP := hide HP
  have HHR := hide HR
  clear HP HR
  go_enter Tryd.func7, Tryd.ntmps7
  go_wp2_with fail
  refine (unhide HHP w).mono ?_
  rintro e w1 ⟨v1, n1, f1, rfl, o1, u1, c1, p1⟩
  have P1 := hide p1
  clear p1
  go_wp2_with fail
  refine (unhide HHR w1).mono ?_
  rintro e w2 ⟨v2, n2, f2, rfl, o2, u2, c2, p2⟩
  have P2 := hide p2
  clear p2 HHP HHR
  have U2 := u1.tr u2
  go_wp2_with fail
  refine (c_any _ n f _ (hv.up U2) (by omega)).mono ?_
  rintro e w3 ⟨a3, rfl, o3, u3⟩
  replace u3 : Up w2 w3 := u3
  go_wp2_with fail
  refine (text_tab _ n f _ o3.sl hf (by omega) (htab.up (U2.tr u3))).mono ?_
  rintro e w4 ⟨s4, rfl, u4, -, hs4⟩
  replace u4 : Up w3 w4 := u4
  have H4 := hide hs4
  clear hs4 o3
  go_wp2_with fail
  have U4 := (U2.tr u3).tr u4
  refine (rtext_any _ n f _ (hv.up U4) hf (by omega)).mono ?_
  rintro e w5 ⟨s5, rfl, u5, hs5⟩
  replace u5 : Up w4 w5 := u5
  obtain rfl : s4 = s5 := says_uniq (unhide H4) hs5
  clear hs5 H4
  have U5 := U4.tr u5
  go_wp2_with fail
  refine (c_any _ n f _ (hv.up U5) (by omega)).mono ?_
  rintro e w6 ⟨a6, rfl, o6, u6⟩
  replace u6 : Up w5 w6 := u6
  go_wp2_with fail
  refine (bits_any _ n f _ o6.sl hf (by omega)).mono ?_
  rintro e w7 ⟨rfl, hw7⟩
  subst hw7
  have U7 := U5.tr u6
  go_wp2_with fail
  refine (rbits_any _ n f _ (hv.up U7) hf (by omega)).mono ?_
  rintro e w8 ⟨rfl, u8⟩
  replace u8 : Up w7 w8 := u8
  have U8 := U7.tr u8
  have U28 : Up w2 w8 := (((u3.tr u4).tr u5).tr u6).tr u8
  go_wp2_with fail
  refine (same_num _ _ n1 n2 f1 f2 _ (o1.sl.up (u2.tr U28)) (o2.sl.up U28) c1 c2 ((unhide P1).trans (unhide P2).symm)).mono ?_
  rintro e w9 ⟨rfl, u9⟩
  replace u9 : Up w8 w9 := u9
  go_wp2_with fail
  refine (awake_any _).mono ?_
  rintro e w10 ⟨rfl, u10⟩
  replace u10 : Up w9 w10 := u10
  go_wp2_with fail
  go_ret
  exact ⟨rfl, (U8.tr u9).tr u10⟩

theorem texts_walk (v : Value) (s : ByteArray) (n : Nat) (f : Nat → Nat) (w : World) (hv : Sl .u32 w v n f)
    (hf : ∀ i, i < n → f i < 4294967296) (hn : n ≤ 1048576) (hs : s.size ≤ 1048576) (htab : Tab w) :
    Calls Tryd.prog 7 #[v, .string s] w fun e w' => e = .returned (.bool true) ∧ Below w.heap.size w w' := by
  by_cases hg : Good s
  · refine texts_walk' v s true (dec (sd s) s.size) n f w hv hf hn htab (fun w => ?_) (fun w => ?_)
    · refine (parse_yes s (sd s) w hg.1 (by omega) hg.digits).mono ?_
      rintro e w1 ⟨v1, n1, f1, he, o1, u1, c1, l1, p1⟩
      exact ⟨v1, n1, f1, he, o1, u1, c1, p1⟩
    · refine (rparse_any s w (by omega)).mono ?_
      rintro e w1 HX
      obtain ⟨n1, f1, v1, o1, u1, c1, h | h⟩ := unhide HX
      · exact ⟨v1, n1, f1, h.1, o1, u1, c1, h.2.2⟩
      · exact absurd hg h.2.1
  · have hbad : s.size = 0 ∨ ∃ i, ∃ h : i < s.size, s[i].toNat < 48 ∨ 57 < s[i].toNat := by
      by_cases h0 : s.size = 0
      · exact .inl h0
      · refine .inr ?_
        apply Classical.byContradiction
        intro hno
        apply hg
        refine ⟨by omega, fun i h => ?_⟩
        apply Classical.byContradiction
        intro hb
        exact hno ⟨i, h, by omega⟩
    refine texts_walk' v s false 0 n f w hv hf hn htab (fun w => ?_) (fun w => ?_)
    · refine (parse_no s w (by omega) hbad).mono ?_
      rintro e w1 ⟨he, rfl⟩
      exact ⟨_, 0, fun _ => 0, he, .inl ⟨rfl, rfl⟩, Up.refl _, ⟨fun i hi => by omega, .inl rfl⟩, rfl⟩
    · refine (rparse_any s w (by omega)).mono ?_
      rintro e w1 HX
      obtain ⟨n1, f1, v1, o1, u1, c1, h | h⟩ := unhide HX
      · exact absurd h.2.1 hg
      · obtain ⟨h1, h2, rfl⟩ := h
        exact ⟨v1, 0, f1, h1, o1, u1, c1, rfl⟩

end Go.Proofs.YtpagphcioeefdaaDoor
