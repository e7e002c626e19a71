/-
  What is proved here: package value's isText of a text, and what is no text or number beyond the fixnums.
-/
import Derived.Test.YtchdfenickjiiaaVShape
import Derived.Test.YtchdfenickjiiaaVTextM
namespace Go.Proofs.Ytchdfenickjiiaa
open Go Go.RowKit

/-- At x there is a text of these len bytes. -/
structure TextAt (f : Nat → Nat) (st : Nat → Bool) (x : Nat) (g : Nat → Nat) (len : Nat) : Prop where
  ptr : isPtr st x = true
  head : f (x / 4) = hOf 3 0 (1 + (len + 7) / 8)
  word : ∀ i, i < 1 + (len + 7) / 8 → f (x / 4 + 1 + 0 + i) = textW g len i
  byte : ∀ i, i < len → g i < 256
  small : 1 + (len + 7) / 8 ≤ 1048576
theorem TextAt.hd {f : Nat → Nat} {st : Nat → Bool} {x : Nat} {g : Nat → Nat} {len : Nat} (h : TextAt f st x g len) : headOf f st x = hOf 3 0 (1 + (len + 7) / 8) := by rw [headOf_yes h.ptr, h.head]
theorem TextAt.raws {f : Nat → Nat} {st : Nat → Bool} {x : Nat} {g : Nat → Nat} {len : Nat} (h : TextAt f st x g len) : hRaw (headOf f st x) = 1 + (len + 7) / 8 := by rw [h.hd, hRaw_of (by decide) (by decide) h.small]
theorem TextAt.raw {f : Nat → Nat} {st : Nat → Bool} {x : Nat} {g : Nat → Nat} {len : Nat} (h : TextAt f st x g len) {i : Nat} (hi : i < 1 + (len + 7) / 8) : rawAt f st x i = textW g len i := by
  unfold rawAt
  rw [h.raws, if_pos hi, h.head, hTag_of (by decide) (by decide), h.word i hi]
theorem TextAt.shape {f : Nat → Nat} {st : Nat → Bool} {x : Nat} {g : Nat → Nat} {len : Nat} (h : TextAt f st x g len) (k t r : Int) : shapeB (headOf f st x) k t r = ((3 == k) && ((0 == t) && (((1 + (len + 7) / 8 : Nat) : Int) == r))) := by
  unfold shapeB
  rw [h.hd, hKind_of (by decide), hTag_of (by decide) (by decide), hRaw_of (by decide) (by decide) h.small]
  rfl
theorem TextAt.last {f : Nat → Nat} {st : Nat → Bool} {x : Nat} {g : Nat → Nat} {len : Nat} (h : TextAt f st x g len) (hl : len % 8 ≠ 0) : rawAt f st x ((len + 7) / 8) < 2 ^ (8 * (len % 8)) := by
  rw [h.raw (by omega)]
  unfold textW wordOf
  rw [if_neg (by omega)]
  have e : clen len ((len + 7) / 8 - 1) = len % 8 := by unfold clen; omega
  rw [e]
  have := num_lt (B := 256) (f := fun i => g (8 * ((len + 7) / 8 - 1) + i)) (n := len % 8) (fun i hi => h.byte _ (by omega))
  rw [show (256 : Nat) = 2 ^ 8 from rfl, ← Nat.pow_mul] at this
  exact this

set_option maxRecDepth 20000 in
set_option maxHeartbeats 2000000 in
theorem isText_yes (w : World) (sb hb : Nat) (X : Nat → Prop) (sz : Nat) (tm : Int) (n : Nat) (f : Nat → Nat) (st : Nat → Bool) (x : Nat) (g : Nat → Nat) (len : Nat) (h : HeapAt w hb X sz tm n f st) (hS : w.cell? ⟨sb, 0, none⟩ = some (.pointer (some ⟨hb, 0, none⟩))) (hx : x < 18446744073709551616) (ht : TextAt f st x g len) :
    Calls Try.prog 80 #[.pointer (some ⟨sb, 0, none⟩), .int .u64 (x : Int)] w fun e w' => e = .returned (.bool true) ∧ ∃ q, w' = w.drewN q := by
  obtain ⟨N, hN⟩ : ∃ N, N = 1 + (len + 7) / 8 := ⟨_, rfl⟩
  have hsm := ht.small
  have KR := heapRaws_any w hb X sz tm n f st x h hx
  rw [ht.raws] at KR
  have KS := fun q => shape_any (w.drewN q) sb hb X sz tm n f st x 3 0 (N : Int) (h.drewN q) hS hx
  rw [ht.shape 3 0 (N : Int), ← hN] at KS
  have e0 : ((3 : Int) == 3 && ((0 : Int) == 0 && ((N : Int) == (N : Int)))) = true := by simp
  rw [e0] at KS
  have K0 := fun q => vraw_any (w.drewN q) sb hb X sz tm n f st x 0 (h.drewN q) hS hx
  rw [ht.raw (by omega)] at K0
  have K1 := fun q => vraw_any (w.drewN q) sb hb X sz tm n f st x ((len + 7) / 8) (h.drewN q) hS hx
  have hlast := ht.last
  generalize rawAt f st x ((len + 7) / 8) = y at *
  have et : textW g len 0 = len := by simp [textW]
  rw [et] at K0
  have KT := fun w1 => textRaws_any len w1 (by omega)
  rw [← hN] at KR KT hsm
  have hNI : ((len + 7) / 8 : Nat) = N - 1 := by omega
  rw [hNI] at K1
  have hn1 : ((N - 1 : Nat) : Int) = (N : Int) - 1 := by omega
  rw [hn1] at K1
  have h0 : ((N : Int) == 0) = false := by rw [beq_eq_false_iff_ne]; omega
  have hle : ¬ ((N : Int) * 8 < (len : Int)) := by omega
  have hNN : ((N : Int) != (N : Int)) = false := by simp
  obtain ⟨r, hr⟩ : ∃ r, r = len % 8 := ⟨_, rfl⟩
  have hrI : (len : Int).tmod 8 = (r : Int) := by rw [Int.tmod_eq_emod_of_nonneg (by omega)]; omega
  have hll : len ≤ 8388608 := by omega
  rw [← hr] at hlast
  have HKR := hide KR
  have HKS := hide KS
  have HK0 := hide K0
  have HK1 := hide K1
  have hr8 : r < 8 := by omega
  clear KR KS K0 K1 h ht et hr hN hNI hn1 e0
  by_cases hr0 : r = 0
  · subst hr0
    go_enter Try.func80, Try.ntmps80
    go_wp2_with (first
      | (go_at_call 71; refine HKR.out.mono ?_; rintro e w1 ⟨rfl, q1, rfl⟩)
      | (go_at_call 58; refine (HKS.out _).mono ?_; rintro e w2 ⟨rfl, q2, hq2⟩; replace hq2 : w2 = w.drewN (q1 + q2) := (by rw [hq2]; simp); subst hq2)
      | (go_at_call_of 70 (Value.int .i64 0); refine (HK0.out _).mono ?_; rintro e w3 ⟨rfl, q3, hq3⟩; replace hq3 : w3 = w.drewN (q1 + q2 + q3) := (by rw [hq3]; simp); subst hq3)
      | (go_at_call 70; refine (HK1.out _).mono ?_; rintro e w4 ⟨rfl, q4, hq4⟩; replace hq4 : w4 = w.drewN (q1 + q2 + q3 + q4) := (by rw [hq4]; simp); subst hq4)
      | (go_at_call 47; refine (KT _).mono ?_; rintro e w1 ⟨rfl, hw⟩; replace hw := hw.symm; subst hw))
    go_ret
    exact ⟨rfl, _, rfl⟩
  · have hl := hlast hr0
    have hrI0 : ((r : Int) == 0) = false := by rw [beq_eq_false_iff_ne]; omega
    clear hlast
    go_enter Try.func80, Try.ntmps80
    go_wp2_with (first
      | (go_at_call 71; refine HKR.out.mono ?_; rintro e w1 ⟨rfl, q1, rfl⟩)
      | (go_at_call 58; refine (HKS.out _).mono ?_; rintro e w2 ⟨rfl, q2, hq2⟩; replace hq2 : w2 = w.drewN (q1 + q2) := (by rw [hq2]; simp); subst hq2)
      | (go_at_call_of 70 (Value.int .i64 0); refine (HK0.out _).mono ?_; rintro e w3 ⟨rfl, q3, hq3⟩; replace hq3 : w3 = w.drewN (q1 + q2 + q3) := (by rw [hq3]; simp); subst hq3)
      | (go_at_call 70; refine (HK1.out _).mono ?_; rintro e w4 ⟨rfl, q4, hq4⟩; replace hq4 : w4 = w.drewN (q1 + q2 + q3 + q4) := (by rw [hq4]; simp); subst hq4)
      | (go_at_call 47; refine (KT _).mono ?_; rintro e w1 ⟨rfl, hw⟩; replace hw := hw.symm; subst hw))
    go_ret
    have hz : ((y : Int) / 2 ^ (8 * r) == 0) = true := by
      rw [beq_iff_eq]
      exact Int.ediv_eq_zero_of_lt (by omega) (by exact_mod_cast hl)
    exact ⟨congrArg (fun b => Ending.returned (.bool b)) hz, _, rfl⟩

theorem shapeB_kind {H : Nat} {k t r : Int} (h : (hKind H : Int) ≠ k) : shapeB H k t r = false := by
  unfold shapeB
  rw [beq_eq_false_iff_ne.2 h]
  rfl

set_option maxRecDepth 20000 in
set_option maxHeartbeats 2000000 in
theorem isText_no (w : World) (sb hb : Nat) (X : Nat → Prop) (sz : Nat) (tm : Int) (n : Nat) (f : Nat → Nat) (st : Nat → Bool) (x : Nat) (h : HeapAt w hb X sz tm n f st) (hS : w.cell? ⟨sb, 0, none⟩ = some (.pointer (some ⟨hb, 0, none⟩))) (hx : x < 18446744073709551616) (hk : hKind (headOf f st x) ≠ 3) :
    Calls Try.prog 80 #[.pointer (some ⟨sb, 0, none⟩), .int .u64 (x : Int)] w fun e w' => e = .returned (.bool false) ∧ ∃ q, w' = w.drewN q := by
  have KR := heapRaws_any w hb X sz tm n f st x h hx
  have KS := fun q => shape_any (w.drewN q) sb hb X sz tm n f st x 3 0 (hRaw (headOf f st x) : Int) (h.drewN q) hS hx
  rw [shapeB_kind (by omega)] at KS
  generalize hRaw (headOf f st x) = N at *
  have HKR := hide KR
  have HKS := hide KS
  clear KR KS h
  cases h0 : ((N : Int) == 0) with
  | true =>
    go_enter Try.func80, Try.ntmps80
    go_wp2_with (go_at_call 71; refine HKR.out.mono ?_; rintro e w1 ⟨rfl, q1, rfl⟩)
    go_ret
    exact ⟨rfl, _, rfl⟩
  | false =>
    go_enter Try.func80, Try.ntmps80
    go_wp2_with (first
      | (go_at_call 71; refine HKR.out.mono ?_; rintro e w1 ⟨rfl, q1, rfl⟩)
      | (go_at_call 58; refine (HKS.out _).mono ?_; rintro e w2 ⟨rfl, q2, hq2⟩; replace hq2 : w2 = w.drewN (q1 + q2) := (by rw [hq2]; simp); subst hq2))
    go_ret
    exact ⟨rfl, _, rfl⟩

set_option maxRecDepth 20000 in
set_option maxHeartbeats 2000000 in
theorem isBig_no (w : World) (sb hb : Nat) (X : Nat → Prop) (sz : Nat) (tm : Int) (n : Nat) (f : Nat → Nat) (st : Nat → Bool) (x : Nat) (h : HeapAt w hb X sz tm n f st) (hS : w.cell? ⟨sb, 0, none⟩ = some (.pointer (some ⟨hb, 0, none⟩))) (hx : x < 18446744073709551616) (hk : hKind (headOf f st x) ≠ 5) :
    Calls Try.prog 66 #[.pointer (some ⟨sb, 0, none⟩), .int .u64 (x : Int)] w fun e w' => e = .returned (.bool false) ∧ ∃ q, w' = w.drewN q := by
  have KR := heapRaws_any w hb X sz tm n f st x h hx
  have KS := fun q => shape_any (w.drewN q) sb hb X sz tm n f st x 5 0 (hRaw (headOf f st x) : Int) (h.drewN q) hS hx
  rw [shapeB_kind (by omega)] at KS
  generalize hRaw (headOf f st x) = N at *
  have HKR := hide KR
  have HKS := hide KS
  clear KR KS h
  by_cases h0 : (N : Int) < 2
  · go_enter Try.func66, Try.ntmps66
    go_wp2_with (go_at_call 71; refine HKR.out.mono ?_; rintro e w1 ⟨rfl, q1, rfl⟩)
    go_ret
    exact ⟨rfl, _, rfl⟩
  · go_enter Try.func66, Try.ntmps66
    go_wp2_with (first
      | (go_at_call 71; refine HKR.out.mono ?_; rintro e w1 ⟨rfl, q1, rfl⟩)
      | (go_at_call 58; refine (HKS.out _).mono ?_; rintro e w2 ⟨rfl, q2, hq2⟩; replace hq2 : w2 = w.drewN (q1 + q2) := (by rw [hq2]; simp); subst hq2))
    go_ret
    exact ⟨rfl, _, rfl⟩

end Go.Proofs.Ytchdfenickjiiaa
