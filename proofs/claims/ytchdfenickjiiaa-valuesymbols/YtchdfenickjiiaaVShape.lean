/-
  What is proved here: package value's isShape, isPair, isVector, isCondition, raw, field: what they tell of any word.
-/
import Derived.Test.YtchdfenickjiiaaVRoom
namespace Go.Proofs.Ytchdfenickjiiaa
open Go Go.RowKit

/-- Is this a header of that kind, with so many fields? -/
def shapeB (H : Nat) (k t r : Int) : Bool := ((hKind H : Int) == k) && (((hTag H : Int) == t) && ((hRaw H : Int) == r))

set_option maxRecDepth 20000 in
set_option maxHeartbeats 1000000 in
theorem shape_any (w : World) (sb hb : Nat) (X : Nat → Prop) (sz : Nat) (tm : Int) (n : Nat) (f : Nat → Nat) (st : Nat → Bool) (x : Nat) (k t r : Int) (h : HeapAt w hb X sz tm n f st) (hS : w.cell? ⟨sb, 0, none⟩ = some (.pointer (some ⟨hb, 0, none⟩))) (hx : x < 18446744073709551616) :
    Calls Try.prog 58 #[.pointer (some ⟨sb, 0, none⟩), .int .u64 (x : Int), .int .i64 k, .int .i64 t, .int .i64 r] w fun e w' => e = .returned (.bool (shapeB (headOf f st x) k t r)) ∧ ∃ q, w' = w.drewN q := by
  have KK := fun q => heapKind_any (w.drewN q) hb X sz tm n f st x (h.drewN q) hx
  have KT := fun q => heapTagged_any (w.drewN q) hb X sz tm n f st x (h.drewN q) hx
  have KR := fun q => heapRaws_any (w.drewN q) hb X sz tm n f st x (h.drewN q) hx
  have K0 := heapKind_any w hb X sz tm n f st x h hx
  unfold shapeB
  generalize hKind (headOf f st x) = a at *
  generalize hTag (headOf f st x) = b at *
  generalize hRaw (headOf f st x) = c at *
  have HT := hide KT
  have HR := hide KR
  have H0 := hide K0
  clear KK KT KR K0 h
  cases h1 : ((a : Int) == k) with
  | false =>
    go_enter Try.func58, Try.ntmps58
    go_wp2_with (go_at_call 95; refine H0.out.mono ?_; rintro e w1 ⟨rfl, q1, rfl⟩)
    go_ret
    exact ⟨rfl, q1, rfl⟩
  | true =>
    cases h2 : ((b : Int) == t) with
    | false =>
      go_enter Try.func58, Try.ntmps58
      go_wp2_with (first
        | (go_at_call 95; refine H0.out.mono ?_; rintro e w1 ⟨rfl, q1, rfl⟩)
        | (go_at_call 34; refine (HT.out _).mono ?_; rintro e w1 ⟨rfl, q2, rfl⟩))
      go_ret
      exact ⟨rfl, q1 + q2, by simp⟩
    | true =>
      go_enter Try.func58, Try.ntmps58
      go_wp2_with (first
        | (go_at_call 95; refine H0.out.mono ?_; rintro e w1 ⟨rfl, q1, rfl⟩)
        | (go_at_call 34; refine (HT.out _).mono ?_; rintro e w2 ⟨rfl, q2, hq2⟩; replace hq2 : w2 = w.drewN (q1 + q2) := (by rw [hq2]; simp); subst hq2)
        | (go_at_call 71; refine (HR.out _).mono ?_; rintro e w3 ⟨rfl, q3, rfl⟩))
      go_ret
      exact ⟨rfl, q1 + q2 + q3, by simp⟩

set_option maxRecDepth 20000 in
theorem isPair_any (w : World) (sb hb : Nat) (X : Nat → Prop) (sz : Nat) (tm : Int) (n : Nat) (f : Nat → Nat) (st : Nat → Bool) (x : Nat) (h : HeapAt w hb X sz tm n f st) (hS : w.cell? ⟨sb, 0, none⟩ = some (.pointer (some ⟨hb, 0, none⟩))) (hx : x < 18446744073709551616) :
    Calls Try.prog 111 #[.pointer (some ⟨sb, 0, none⟩), .int .u64 (x : Int)] w fun e w' => e = .returned (.bool (shapeB (headOf f st x) 1 2 0)) ∧ ∃ q, w' = w.drewN q := by
  have K := shape_any w sb hb X sz tm n f st x 1 2 0 h hS hx
  go_enter Try.func111, Try.ntmps111
  go_wp2_with (go_at_call 58; refine K.mono ?_; rintro e w1 ⟨rfl, q1, rfl⟩)
  go_ret
  exact ⟨rfl, q1, rfl⟩

set_option maxRecDepth 20000 in
theorem isCond_any (w : World) (sb hb : Nat) (X : Nat → Prop) (sz : Nat) (tm : Int) (n : Nat) (f : Nat → Nat) (st : Nat → Bool) (x : Nat) (h : HeapAt w hb X sz tm n f st) (hS : w.cell? ⟨sb, 0, none⟩ = some (.pointer (some ⟨hb, 0, none⟩))) (hx : x < 18446744073709551616) :
    Calls Try.prog 115 #[.pointer (some ⟨sb, 0, none⟩), .int .u64 (x : Int)] w fun e w' => e = .returned (.bool (shapeB (headOf f st x) 9 3 0)) ∧ ∃ q, w' = w.drewN q := by
  have K := shape_any w sb hb X sz tm n f st x 9 3 0 h hS hx
  go_enter Try.func115, Try.ntmps115
  go_wp2_with (go_at_call 58; refine K.mono ?_; rintro e w1 ⟨rfl, q1, rfl⟩)
  go_ret
  exact ⟨rfl, q1, rfl⟩

set_option maxRecDepth 20000 in
theorem isVec_any (w : World) (sb hb : Nat) (X : Nat → Prop) (sz : Nat) (tm : Int) (n : Nat) (f : Nat → Nat) (st : Nat → Bool) (x : Nat) (h : HeapAt w hb X sz tm n f st) (hS : w.cell? ⟨sb, 0, none⟩ = some (.pointer (some ⟨hb, 0, none⟩))) (hx : x < 18446744073709551616) :
    Calls Try.prog 113 #[.pointer (some ⟨sb, 0, none⟩), .int .u64 (x : Int)] w fun e w' => e = .returned (.bool (shapeB (headOf f st x) 2 (hTag (headOf f st x) : Int) 0)) ∧ ∃ q, w' = w.drewN q := by
  have K := fun q => shape_any (w.drewN q) sb hb X sz tm n f st x 2 (hTag (headOf f st x) : Int) 0 (h.drewN q) hS hx
  have KT := heapTagged_any w hb X sz tm n f st x h hx
  generalize hTag (headOf f st x) = a at *
  generalize shapeB (headOf f st x) 2 (a : Int) 0 = b at *
  have HK := hide K
  have HT := hide KT
  clear K KT h
  go_enter Try.func113, Try.ntmps113
  go_wp2_with (first
    | (go_at_call 34; refine HT.out.mono ?_; rintro e w1 ⟨rfl, q1, rfl⟩)
    | (go_at_call 58; refine (HK.out _).mono ?_; rintro e w1 ⟨rfl, q2, rfl⟩))
  go_ret
  exact ⟨rfl, q1 + q2, by simp⟩

/-- A raw field; 0, if there is none. -/
def rawAt (f : Nat → Nat) (st : Nat → Bool) (x i : Nat) : Nat := if i < hRaw (headOf f st x) then f (x / 4 + 1 + hTag (f (x / 4)) + i) else 0
/-- A tagged field; 0, if there is none. -/
def fieldAt (f : Nat → Nat) (st : Nat → Bool) (x i : Nat) : Nat := if i < hTag (headOf f st x) then f (x / 4 + 1 + i) else 0

theorem headOf_ptr {f : Nat → Nat} {st : Nat → Bool} {x i : Nat} (h : i < hRaw (headOf f st x)) : isPtr st x = true := by
  cases e : isPtr st x with
  | true => rfl
  | false => rw [headOf_no e] at h; simp [hRaw] at h
theorem headOf_ptrT {f : Nat → Nat} {st : Nat → Bool} {x i : Nat} (h : i < hTag (headOf f st x)) : isPtr st x = true := by
  cases e : isPtr st x with
  | true => rfl
  | false => rw [headOf_no e] at h; simp [hTag] at h

set_option maxRecDepth 20000 in
theorem vraw_any (w : World) (sb hb : Nat) (X : Nat → Prop) (sz : Nat) (tm : Int) (n : Nat) (f : Nat → Nat) (st : Nat → Bool) (x i : Nat) (h : HeapAt w hb X sz tm n f st) (hS : w.cell? ⟨sb, 0, none⟩ = some (.pointer (some ⟨hb, 0, none⟩))) (hx : x < 18446744073709551616) :
    Calls Try.prog 70 #[.pointer (some ⟨sb, 0, none⟩), .int .u64 (x : Int), .int .i64 (i : Int)] w fun e w' => e = .returned (.int .u64 (rawAt f st x i : Int)) ∧ ∃ q, w' = w.drewN q := by
  obtain ⟨b, K⟩ : ∃ b, Calls Try.prog 106 #[.pointer (some ⟨hb, 0, none⟩), .int .u64 (x : Int), .int .i64 (i : Int)] w fun e w' => e = .returned (.tuple #[.int .u64 (rawAt f st x i : Int), .bool b]) ∧ ∃ q, w' = w.drewN q := by
    by_cases hi : i < hRaw (headOf f st x)
    · have hp := headOf_ptr hi
      refine ⟨true, ?_⟩
      unfold rawAt
      rw [if_pos hi]
      exact rawh_in w hb X sz tm n f st x i h hx hp (by rw [headOf_yes hp] at hi; exact hi)
    · refine ⟨false, ?_⟩
      unfold rawAt
      rw [if_neg hi]
      exact rawh_out w hb X sz tm n f st x i h hx (.inr (by omega))
  generalize rawAt f st x i = y at *
  clear h
  go_enter Try.func70, Try.ntmps70
  go_wp2_with (go_at_call 106; refine K.mono ?_; rintro e w1 ⟨rfl, q1, rfl⟩)
  go_ret
  exact ⟨rfl, q1, rfl⟩

set_option maxRecDepth 20000 in
theorem vfield_any (w : World) (sb hb : Nat) (X : Nat → Prop) (sz : Nat) (tm : Int) (n : Nat) (f : Nat → Nat) (st : Nat → Bool) (x i : Nat) (h : HeapAt w hb X sz tm n f st) (hS : w.cell? ⟨sb, 0, none⟩ = some (.pointer (some ⟨hb, 0, none⟩))) (hx : x < 18446744073709551616) :
    Calls Try.prog 59 #[.pointer (some ⟨sb, 0, none⟩), .int .u64 (x : Int), .int .i64 (i : Int)] w fun e w' => e = .returned (.int .u64 (fieldAt f st x i : Int)) ∧ ∃ q, w' = w.drewN q := by
  obtain ⟨b, K⟩ : ∃ b, Calls Try.prog 35 #[.pointer (some ⟨hb, 0, none⟩), .int .u64 (x : Int), .int .i64 (i : Int)] w fun e w' => e = .returned (.tuple #[.int .u64 (fieldAt f st x i : Int), .bool b]) ∧ ∃ q, w' = w.drewN q := by
    by_cases hi : i < hTag (headOf f st x)
    · have hp := headOf_ptrT hi
      refine ⟨true, ?_⟩
      unfold fieldAt
      rw [if_pos hi]
      exact geth_in w hb X sz tm n f st x i h hx hp (by rw [headOf_yes hp] at hi; exact hi)
    · refine ⟨false, ?_⟩
      unfold fieldAt
      rw [if_neg hi]
      exact geth_out w hb X sz tm n f st x i h hx (.inr (by omega))
  generalize fieldAt f st x i = y at *
  clear h
  go_enter Try.func59, Try.ntmps59
  go_wp2_with (go_at_call 35; refine K.mono ?_; rintro e w1 ⟨rfl, q1, rfl⟩)
  go_ret
  exact ⟨rfl, q1, rfl⟩

end Go.Proofs.Ytchdfenickjiiaa
