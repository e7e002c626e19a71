/-
  What is proved here: package value's isBig of a number beyond the fixnums.
-/
import Derived.Test.YtchdfenickjiiaaVTell
namespace Go.Proofs.Ytchdfenickjiiaa
open Go Go.RowKit

/-- A number beyond the fixnums at x: N raw fields, its sign s first, its last word y. -/
structure BigAt (f : Nat → Nat) (st : Nat → Bool) (x N s y : Nat) : Prop where
  hd : headOf f st x = hOf 5 0 N
  two : 2 ≤ N
  small : N ≤ 1048576
  sign : rawAt f st x 0 = s
  last : rawAt f st x (N - 1) = y
  s1 : s ≤ 1
  y0 : y ≠ 0
  big : 2 < N ∨ 2305843009213693951 + s < y

set_option maxRecDepth 20000 in
set_option maxHeartbeats 4000000 in
theorem isBig_yes (w : World) (sb hb : Nat) (X : Nat → Prop) (sz : Nat) (tm : Int) (n : Nat) (f : Nat → Nat) (st : Nat → Bool) (x N s y : Nat) (h : HeapAt w hb X sz tm n f st) (hS : w.cell? ⟨sb, 0, none⟩ = some (.pointer (some ⟨hb, 0, none⟩))) (hx : x < 18446744073709551616) (ht : BigAt f st x N s y) :
    Calls Try.prog 66 #[.pointer (some ⟨sb, 0, none⟩), .int .u64 (x : Int)] w fun e w' => e = .returned (.bool true) ∧ ∃ q, w' = w.drewN q := by
  have h2 := ht.two
  have hsm := ht.small
  have hs1 := ht.s1
  have hy0 := ht.y0
  have hbig := ht.big
  have KR := heapRaws_any w hb X sz tm n f st x h hx
  rw [ht.hd, hRaw_of (by decide) (by decide) hsm] at KR
  have KS := fun q => shape_any (w.drewN q) sb hb X sz tm n f st x 5 0 (N : Int) (h.drewN q) hS hx
  have e0 : shapeB (headOf f st x) 5 0 (N : Int) = true := by
    unfold shapeB
    rw [ht.hd, hKind_of (by decide), hTag_of (by decide) (by decide), hRaw_of (by decide) (by decide) hsm]
    simp
  rw [e0] at KS
  have K0 := fun q => vraw_any (w.drewN q) sb hb X sz tm n f st x 0 (h.drewN q) hS hx
  rw [ht.sign] at K0
  have K1 := fun q => vraw_any (w.drewN q) sb hb X sz tm n f st x (N - 1) (h.drewN q) hS hx
  rw [ht.last] at K1
  have hn1 : ((N - 1 : Nat) : Int) = (N : Int) - 1 := by omega
  rw [hn1] at K1
  have c0 := hS
  have i2 : ¬ ((N : Int) < 2) := by omega
  have is1 : ¬ ((1 : Int) < (s : Int)) := by omega
  have iy0 : ((y : Int) == 0) = false := by rw [beq_eq_false_iff_ne]; omega
  have iw : IntKind.u64.wrap (2305843009213693951 + (s : Int)) = 2305843009213693951 + (s : Int) := by rw [u64w]; omega
  have HKR := hide KR
  have HKS := hide KS
  have HK0 := hide K0
  have HK1 := hide K1
  clear KR KS K0 K1 h ht e0 hn1 hS
  by_cases hN : 2 < N
  · have iN : (2 : Int) < (N : Int) := by omega
    clear hbig
    go_enter Try.func66, Try.ntmps66
    go_wp2_with (first
      | (go_at_call 71; refine HKR.out.mono ?_; rintro e w1 ⟨rfl, q1, rfl⟩)
      | (go_at_call 58; refine (HKS.out _).mono ?_; rintro e w2 ⟨rfl, q2, hq2⟩; replace hq2 : w2 = w.drewN (q1 + q2) := (by rw [hq2]; simp); subst hq2)
      | (go_at_call_of 70 (Value.int .i64 0); refine (HK0.out _).mono ?_; rintro e w3 ⟨rfl, q3, hq3⟩; replace hq3 : w3 = w.drewN (q1 + q2 + q3) := (by rw [hq3]; simp); subst hq3)
      | (go_at_call 70; refine (HK1.out _).mono ?_; rintro e w4 ⟨rfl, q4, hq4⟩; replace hq4 : w4 = w.drewN (q1 + q2 + q3 + q4) := (by rw [hq4]; simp); subst hq4))
    go_ret
    exact ⟨rfl, _, rfl⟩
  · have iN : ¬ ((2 : Int) < (N : Int)) := by omega
    have iy : 2305843009213693951 + (s : Int) < (y : Int) := by omega
    clear hbig
    go_enter Try.func66, Try.ntmps66
    go_wp2_with (first
      | (go_at_call 71; refine HKR.out.mono ?_; rintro e w1 ⟨rfl, q1, rfl⟩)
      | (go_at_call 58; refine (HKS.out _).mono ?_; rintro e w2 ⟨rfl, q2, hq2⟩; replace hq2 : w2 = w.drewN (q1 + q2) := (by rw [hq2]; simp); subst hq2)
      | (go_at_call_of 70 (Value.int .i64 0); refine (HK0.out _).mono ?_; rintro e w3 ⟨rfl, q3, hq3⟩; replace hq3 : w3 = w.drewN (q1 + q2 + q3) := (by rw [hq3]; simp); subst hq3)
      | (go_at_call 70; refine (HK1.out _).mono ?_; rintro e w4 ⟨rfl, q4, hq4⟩; replace hq4 : w4 = w.drewN (q1 + q2 + q3 + q4) := (by rw [hq4]; simp); subst hq4))
    go_ret
    exact ⟨rfl, _, rfl⟩

end Go.Proofs.Ytchdfenickjiiaa
