/-
  What is proved here: the document's own rules on operands (tandemref11.own) are the plain model's.
-/
import Derived.Test.YtmogglmofbbjlaaKRefC
namespace Go.Proofs.Ytmogglmofbbjlaa
open Go Go.RowKit

set_option maxRecDepth 20000 in
theorem rown_any (w : World) (so : Option Addr) (np sc : Nat) (fr : Nat → Int) (p : PR) (q : Hd) (o a b : Int) (hfr : FreesAt w so np fr) (hs1 : np ≤ sc) (hs2 : sc ≤ 9223372036854775807) (hpb : PB p q) (hb1 : -9223372036854775808 ≤ b) (hb2 : b ≤ 9223372036854775807) :
    Calls Try.prog 28 #[.slice so np sc, .agg #[.string q.nm, .int .i64 p.args, .int .i64 p.free, .bool p.rest, .slice q.co p.len q.cc, .slice q.ka p.nc q.kc, .slice q.na p.nn q.nc], .agg #[.int .i64 o, .int .i64 a, .int .i64 b]] w fun e w' => e = .returned (.int .i64 (wrongM np fr p o a b : Int)) ∧ Fr (fun _ => False) w w' := by
  by_cases ho : 1 ≤ o ∧ o ≤ 21
  · obtain ⟨k, rfl⟩ : ∃ k : Nat, o = (k : Int) := ⟨o.toNat, by omega⟩
    rcases ops_21 (k := k) (by omega) (by omega) with rfl | rfl | rfl | rfl | rfl | rfl | rfl | rfl | rfl | rfl | rfl | rfl | rfl | rfl | rfl | rfl | rfl | rfl | rfl | rfl | rfl
    · exact rown_1 w so np sc fr p q a b hfr hs1 hs2 hpb
    · exact rown_2 w so np sc fr p q a b hfr hs1 hs2 hpb
    · exact rown_3 w so np sc fr p q a b hfr hs1 hs2 hpb
    · exact rown_4 w so np sc fr p q a b hfr hs1 hs2 hpb
    · exact rown_5 w so np sc fr p q a b hfr hs1 hs2 hpb
    · exact rown_6 w so np sc fr p q a b hfr hs1 hs2 hpb
    · exact rown_7 w so np sc fr p q a b hfr hs1 hs2 hpb
    · exact rown_8 w so np sc fr p q a b hfr hs1 hs2 hpb
    · exact rown_9 w so np sc fr p q a b hfr hs1 hs2 hpb
    · exact rown_10 w so np sc fr p q a b hfr hs1 hs2 hpb hb1 hb2
    · exact rown_11 w so np sc fr p q a b hfr hs1 hs2 hpb
    · exact rown_12 w so np sc fr p q a b hfr hs1 hs2 hpb
    · exact rown_13 w so np sc fr p q a b hfr hs1 hs2 hpb
    · exact rown_14 w so np sc fr p q a b hfr hs1 hs2 hpb
    · exact rown_15 w so np sc fr p q a b hfr hs1 hs2 hpb
    · exact rown_16 w so np sc fr p q a b hfr hs1 hs2 hpb hb1 hb2
    · exact rown_17 w so np sc fr p q a b hfr hs1 hs2 hpb
    · exact rown_18 w so np sc fr p q a b hfr hs1 hs2 hpb
    · exact rown_19 w so np sc fr p q a b hfr hs1 hs2 hpb
    · exact rown_20 w so np sc fr p q a b hfr hs1 hs2 hpb
    · exact rown_21 w so np sc fr p q a b hfr hs1 hs2 hpb
  · have HW : Hid (wrongM np fr p o a b = 30) := by
      unfold Hid wrongM
      rw [if_pos]
      unfold isIn
      by_cases h1 : 1 ≤ o
      · rw [decide_eq_false (by omega : ¬ o ≤ 21), Bool.and_false]
      · rw [decide_eq_false h1, Bool.false_and]
    generalize wrongM np fr p o a b = R at *
    clear hfr hpb
    by_cases h1 : o < 1
    · clear ho
      go_enter Try.func28, Try.ntmps28
      go_wp2
      go_ret
      exact ⟨retI (by rw [HW.out]; rfl), (by repeat (first | exact Fr.refl _ _ | apply Fr.alloc | apply Fr.drew | apply Fr.drewN))⟩
    · have h2 : 21 < o := by omega
      clear ho
      go_enter Try.func28, Try.ntmps28
      go_wp2
      go_ret
      exact ⟨retI (by rw [HW.out]; rfl), (by repeat (first | exact Fr.refl _ _ | apply Fr.alloc | apply Fr.drew | apply Fr.drewN))⟩

end Go.Proofs.Ytmogglmofbbjlaa
