/-
  What is proved here: package value's sameRaws of objects that differ, and Eqv of two numbers beyond the fixnums.
-/
import Derived.Test.YtchdfenickjiiaaVBig
import Derived.Test.YtchdfenickjiiaaVEqual
namespace Go.Proofs.Ytchdfenickjiiaa
open Go Go.RowKit

set_option maxRecDepth 20000 in
set_option maxHeartbeats 2000000 in
theorem sameRaws_len (w : World) (sb hb : Nat) (X : Nat → Prop) (sz : Nat) (tm : Int) (n : Nat) (f : Nat → Nat) (st : Nat → Bool) (x y : Nat) (h : HeapAt w hb X sz tm n f st) (hS : w.cell? ⟨sb, 0, none⟩ = some (.pointer (some ⟨hb, 0, none⟩))) (hx : x < 18446744073709551616) (hy : y < 18446744073709551616) (hr : hRaw (headOf f st x) ≠ hRaw (headOf f st y)) :
    Calls Try.prog 67 #[.pointer (some ⟨sb, 0, none⟩), .int .u64 (x : Int), .int .u64 (y : Int)] w fun e w' => e = .returned (.bool false) ∧ ∃ q, w' = w.drewN q := by
  have KX := fun q => heapRaws_any (w.drewN q) hb X sz tm n f st x (h.drewN q) hx
  have KY := fun q => heapRaws_any (w.drewN q) hb X sz tm n f st y (h.drewN q) hy
  generalize hRaw (headOf f st x) = N at *
  generalize hRaw (headOf f st y) = M at *
  have hne : ((N : Int) != (M : Int)) = true := by rw [bne_iff_ne]; omega
  have HX := hide KX
  have HY := hide KY
  clear KX KY h hr
  go_enter Try.func67, Try.ntmps67
  go_wp2
  go_quiet ((first
    | (go_at_call_of 71 (Value.int .u64 (x : Int)); exact Calls.quiet_of (HX.out _))
    | (go_at_call_of 71 (Value.int .u64 (y : Int)); exact Calls.quiet_of (HY.out _))))
  go_wp2
  go_ret
  exact ⟨rfl, _, rfl⟩

set_option maxRecDepth 20000 in
set_option maxHeartbeats 2000000 in
/-- The raw field d is the first that differs. -/
theorem sameRaws_at (w : World) (sb hb : Nat) (X : Nat → Prop) (sz : Nat) (tm : Int) (n : Nat) (f : Nat → Nat) (st : Nat → Bool) (x y d : Nat) (h : HeapAt w hb X sz tm n f st) (hS : w.cell? ⟨sb, 0, none⟩ = some (.pointer (some ⟨hb, 0, none⟩))) (hx : x < 18446744073709551616) (hy : y < 18446744073709551616) (hr : hRaw (headOf f st y) = hRaw (headOf f st x)) (hd : d < hRaw (headOf f st x)) (hs : ∀ i, i < d → rawAt f st y i = rawAt f st x i) (hne2 : rawAt f st x d ≠ rawAt f st y d) :
    Calls Try.prog 67 #[.pointer (some ⟨sb, 0, none⟩), .int .u64 (x : Int), .int .u64 (y : Int)] w fun e w' => e = .returned (.bool false) ∧ ∃ q, w' = w.drewN q := by
  have KX := fun q => heapRaws_any (w.drewN q) hb X sz tm n f st x (h.drewN q) hx
  have KY := fun q => heapRaws_any (w.drewN q) hb X sz tm n f st y (h.drewN q) hy
  rw [hr] at KY
  have RX := fun q i => vraw_any (w.drewN q) sb hb X sz tm n f st x i (h.drewN q) hS hx
  have RY := fun q i => vraw_any (w.drewN q) sb hb X sz tm n f st y i (h.drewN q) hS hy
  have hNb : hRaw (headOf f st x) < 16777216 := Nat.mod_lt _ (by decide)
  generalize hRaw (headOf f st x) = N at *
  have hne : ((N : Int) != (N : Int)) = false := by simp
  have HX := hide KX
  have HY := hide KY
  have HRX := hide RX
  have HRY := hide RY
  have HS := hide hs
  clear KX KY RX RY h hr hs
  go_enter Try.func67, Try.ntmps67
  go_wp2
  go_quiet ((first
    | (go_at_call_of 71 (Value.int .u64 (x : Int)); exact Calls.quiet_of (HX.out _))
    | (go_at_call_of 71 (Value.int .u64 (y : Int)); exact Calls.quiet_of (HY.out _))))
  go_wp2_with (go_at_call 71; refine (HX.out _).mono ?_; rintro e w1 ⟨rfl, q1, hq1⟩; replace hq1 : w1 = w.drewN (nq + q1) := (by rw [hq1]; simp); subst hq1)
  go_loopw [27] (fun a27 wr => ∃ i : Nat, i ≤ d ∧ a27 = .int .i64 (i : Int) ∧ ∃ q, wr = w.drewN q) (fun a27 _ => N - (intOf a27).toNat)
  case atStart => exact ⟨0, Nat.zero_le _, rfl, _, rfl⟩
  case round =>
    obtain ⟨i, hi, rfl, q, rfl⟩ := hrel
    have hiI : (i : Int) < (N : Int) := by omega
    have RX1 := fun q => HRX.out q i
    have RY1 := fun q => HRY.out q i
    by_cases hlt : i < d
    · rw [HS.out i hlt] at RY1
      generalize rawAt f st x i = z at *
      have hzz : ((z : Int) != (z : Int)) = false := by simp
      have HX1 := hide RX1
      have HY1 := hide RY1
      clear RX1 RY1
      go_wp2_with (first
        | (go_at_call_of 70 (Value.int .u64 (x : Int)); refine (HX1.out _).mono ?_; rintro e w3 ⟨rfl, q3, hq3⟩; replace hq3 : w3 = w.drewN (q + q3) := (by rw [hq3]; simp); subst hq3)
        | (go_at_call_of 70 (Value.int .u64 (y : Int)); refine (HY1.out _).mono ?_; rintro e w4 ⟨rfl, q4, hq4⟩; replace hq4 : w4 = w.drewN (q + q3 + q4) := (by rw [hq4]; simp); subst hq4))
      refine ⟨⟨i + 1, by omega, by go_num, _, rfl⟩, ?_⟩
      simp [intOf]
      omega
    · have hid : i = d := by omega
      subst hid
      generalize rawAt f st x i = z at *
      generalize rawAt f st y i = z' at *
      have hzz : ((z : Int) != (z' : Int)) = true := by rw [bne_iff_ne]; omega
      have HX1 := hide RX1
      have HY1 := hide RY1
      clear RX1 RY1
      go_wp2_with (first
        | (go_at_call_of 70 (Value.int .u64 (x : Int)); refine (HX1.out _).mono ?_; rintro e w3 ⟨rfl, q3, hq3⟩; replace hq3 : w3 = w.drewN (q + q3) := (by rw [hq3]; simp); subst hq3)
        | (go_at_call_of 70 (Value.int .u64 (y : Int)); refine (HY1.out _).mono ?_; rintro e w4 ⟨rfl, q4, hq4⟩; replace hq4 : w4 = w.drewN (q + q3 + q4) := (by rw [hq4]; simp); subst hq4))
      go_ret
      exact ⟨rfl, _, rfl⟩

set_option maxRecDepth 20000 in
set_option maxHeartbeats 2000000 in
/-- Two numbers beyond the fixnums, as sameRaws says. -/
theorem eqv_big (w : World) (sb hb : Nat) (X : Nat → Prop) (sz : Nat) (tm : Int) (n : Nat) (f : Nat → Nat) (st : Nat → Bool) (x y N M s t u v : Nat) (r : Bool) (h : HeapAt w hb X sz tm n f st) (hS : w.cell? ⟨sb, 0, none⟩ = some (.pointer (some ⟨hb, 0, none⟩))) (hx : x < 18446744073709551616) (hy : y < 18446744073709551616) (hne : x ≠ y) (bx : BigAt f st x N s u) (by_ : BigAt f st y M t v)
    (KR : ∀ q, Calls Try.prog 67 #[.pointer (some ⟨sb, 0, none⟩), .int .u64 (x : Int), .int .u64 (y : Int)] (w.drewN q) fun e w' => e = .returned (.bool r) ∧ ∃ q', w' = (w.drewN q).drewN q') :
    Calls Try.prog 25 #[.pointer (some ⟨sb, 0, none⟩), .int .u64 (x : Int), .int .u64 (y : Int)] w fun e w' => e = .returned (.bool r) ∧ ∃ q, w' = w.drewN q := by
  have KX := fun q => isBig_yes (w.drewN q) sb hb X sz tm n f st x N s u (h.drewN q) hS hx bx
  have KY := fun q => isBig_yes (w.drewN q) sb hb X sz tm n f st y M t v (h.drewN q) hS hy by_
  have hxy : ((x : Int) == (y : Int)) = false := by rw [beq_eq_false_iff_ne]; omega
  have HX := hide KX
  have HY := hide KY
  have HR := hide KR
  clear KX KY KR h bx by_
  go_enter Try.func25, Try.ntmps25
  go_wp2_with (first
    | (go_at_call_of 66 (Value.int .u64 (x : Int)); refine (HX.out 0).mono ?_; rintro e w1 ⟨rfl, q1, hq1⟩; replace hq1 : w1 = w.drewN q1 := (by rw [hq1]; simp); subst hq1)
    | (go_at_call_of 66 (Value.int .u64 (y : Int)); refine (HY.out _).mono ?_; rintro e w2 ⟨rfl, q2, hq2⟩; replace hq2 : w2 = w.drewN (q1 + q2) := (by rw [hq2]; simp); subst hq2)
    | (go_at_call 67; refine (HR.out _).mono ?_; rintro e w3 ⟨rfl, q3, hq3⟩; replace hq3 : w3 = w.drewN (q1 + q2 + q3) := (by rw [hq3]; simp); subst hq3))
  go_ret
  exact ⟨rfl, _, rfl⟩

end Go.Proofs.Ytchdfenickjiiaa
