/-
  What is proved here: tandemlaw03's do, of the kinds 6 (what a word is): both heaps answer alike.
-/
import Derived.Test.YtfeofdeffmnbkaaHDo
import Derived.BigQuiet
import Derived.Deep.RegionHeld3
import Derived.Deep.AppendLies
namespace Go.Proofs.Ytfeofdeffmnbkaa
open Go Go.RowKit

set_option maxRecDepth 20000 in
set_option maxHeartbeats 20000000 in
theorem do6_false (B : Nat) (w : World) (ob hb rb sz : Nat) (tm : Int) (n : Nat) (f : Nat → Nat) (st : Nat → Bool) (m : Nat) (o : Nat → Nat) (k a b c : Int) (y : Nat) (vR : Value) (l : Nat) (h : OnAt B w ob hb rb sz tm n f st m o) (_hB : B ≤ w.heap.size)
    (hk1 : -9223372036854775808 ≤ k) (hk2 : k ≤ 9223372036854775807) (ha1 : -9223372036854775808 ≤ a) (ha2 : a ≤ 9223372036854775807) (hy : y < 18446744073709551616) (hk : (k % ((7 : Nat) : Int)).toNat = 6) :
    Calls Try.prog 13 #[.pointer (some ⟨ob, 0, none⟩), .agg #[.int .i64 k, .int .i64 a, .int .i64 b, .int .i64 c, .int .u64 (y : Int), .bool false, vR]] w fun e w' => DoEnd B w ob hb rb sz l tm n f st m o e w' := by
  obtain ⟨X, Y, vO, h, bX, bY, bo, bO⟩ := h
  obtain ⟨x, hx⟩ : ∃ x, pk m o a = x := ⟨_, rfl⟩
  have hxl : x < 18446744073709551616 := hx ▸ pk_lt h.ol a
  have KL := place_at k 6 hk hk1 hk2
  have hnX : Hid (¬ X w.heap.size) := hide fun e => by have := h.H.lt e; omega
  have hnY : Hid (¬ Y w.heap.size) := hide fun e => by have := h.R.lt e; omega
  have HO := hide h
  have HX := hide hx
  have HV := hide hy
  clear h hx hxl hk
  obtain ⟨t0, ht0⟩ : ∃ t, isPtr st y = t := ⟨_, rfl⟩
  obtain ⟨t1, ht1⟩ : ∃ t, hKind (headOf f st y) = t := ⟨_, rfl⟩
  obtain ⟨t2, ht2⟩ : ∃ t, hTag (headOf f st y) = t := ⟨_, rfl⟩
  obtain ⟨t3, ht3⟩ : ∃ t, hRaw (headOf f st y) = t := ⟨_, rfl⟩
  have KHIs := fun w1 h1 => ht0 ▸ is_any w1 hb X sz tm n f st y h1 HV.out
  have KRIs := fun w1 h1 => ht0 ▸ ris_any w1 rb Y sz tm n f st y h1 HV.out
  have KHKind := fun w1 h1 => ht1 ▸ heapKind_any w1 hb X sz tm n f st y h1 HV.out
  have KRKind := fun w1 h1 => ht1 ▸ rKind_any w1 rb Y sz tm n f st y h1 HV.out
  have KHTagged := fun w1 h1 => ht2 ▸ heapTagged_any w1 hb X sz tm n f st y h1 HV.out
  have KRTagged := fun w1 h1 => ht2 ▸ rTagged_any w1 rb Y sz tm n f st y h1 HV.out
  have KHRaws := fun w1 h1 => ht3 ▸ heapRaws_any w1 hb X sz tm n f st y h1 HV.out
  have KRRaws := fun w1 h1 => ht3 ▸ rRaws_any w1 rb Y sz tm n f st y h1 HV.out
  have HT := hide (And.intro ht0 (And.intro ht1 (And.intro ht2 ht3)))
  clear ht0 ht1 ht2 ht3
  have e0 : (t0 == t0) = true := by simp
  have e1 : ((t1 : Int) == (t1 : Int)) = true := by simp
  have e2 : ((t2 : Int) == (t2 : Int)) = true := by simp
  have e3 : ((t3 : Int) == (t3 : Int)) = true := by simp
  go_enter Try.func13, Try.ntmps13
  go_wp2_with (first
    | (go_at_call 16; refine (pick_at _ ob hb X rb Y vO sz tm n f st m o a x HX.out (HO.out.fr (ofDrew ⟨0, rfl⟩) (fun _ _ e => e)) ha1 ha2).mono ?_; rintro e w1 ⟨rfl, hq⟩; have cx0 := boxCell hq 0 _ rfl; have HF := hide (ofDrew hq); have hbl : Hid (w.heap.size < w1.heap.size) := hide (boxLt hq); have HN := hide (HO.out.fr HF.out (fun _ _ e => e)); have co0 := HN.out.cells.1; have co1 := HN.out.cells.2.1; have co2 := HN.out.cells.2.2; clear hq)
    | (go_at_call 22; refine (KL _).mono ?_; rintro e w9 ⟨rfl, hw⟩; replace hw := hw.symm; subst hw))
  go_quiet ((first
    | (go_at_call 29; exact Calls.quiet_of (KHIs _ (HN.out.H.drewN _)))
    | (go_at_call 42; exact Calls.quiet_of_same (KRIs _ (HN.out.R.drewN _)))
    | (go_at_call 27; exact Calls.quiet_of (KHKind _ (HN.out.H.drewN _)))
    | (go_at_call 43; exact Calls.quiet_of_same (KRKind _ (HN.out.R.drewN _)))
    | (go_at_call 25; exact Calls.quiet_of (KHTagged _ (HN.out.H.drewN _)))
    | (go_at_call 44; exact Calls.quiet_of_same (KRTagged _ (HN.out.R.drewN _)))
    | (go_at_call 26; exact Calls.quiet_of (KHRaws _ (HN.out.H.drewN _)))
    | (go_at_call 45; exact Calls.quiet_of_same (KRRaws _ (HN.out.R.drewN _)))
    ))
  go_wp2
  go_ret
  exact DoEnd.idle (HN.out.fr ((Fr.refl _ _).drewN _) (fun _ _ e => e)) bX bY bo bO (HF.out.drewN _)

set_option maxRecDepth 20000 in
set_option maxHeartbeats 20000000 in
theorem do6_true (B : Nat) (w : World) (ob hb rb sz : Nat) (tm : Int) (n : Nat) (f : Nat → Nat) (st : Nat → Bool) (m : Nat) (o : Nat → Nat) (k a b c : Int) (y : Nat) (vR : Value) (l : Nat) (h : OnAt B w ob hb rb sz tm n f st m o) (_hB : B ≤ w.heap.size)
    (hk1 : -9223372036854775808 ≤ k) (hk2 : k ≤ 9223372036854775807) (ha1 : -9223372036854775808 ≤ a) (ha2 : a ≤ 9223372036854775807) (hc1 : -9223372036854775808 ≤ c) (hc2 : c ≤ 9223372036854775807) (_hy : y < 18446744073709551616) (hk : (k % ((7 : Nat) : Int)).toNat = 6) :
    Calls Try.prog 13 #[.pointer (some ⟨ob, 0, none⟩), .agg #[.int .i64 k, .int .i64 a, .int .i64 b, .int .i64 c, .int .u64 (y : Int), .bool true, vR]] w fun e w' => DoEnd B w ob hb rb sz l tm n f st m o e w' := by
  obtain ⟨X, Y, vO, h, bX, bY, bo, bO⟩ := h
  obtain ⟨x, hx⟩ : ∃ x, pk m o a = x := ⟨_, rfl⟩
  have hxl : x < 18446744073709551616 := hx ▸ pk_lt h.ol a
  obtain ⟨x2, hx2⟩ : ∃ x, pk m o c = x := ⟨_, rfl⟩
  have hxl2 : x2 < 18446744073709551616 := hx2 ▸ pk_lt h.ol c
  have KL := place_at k 6 hk hk1 hk2
  have hnX : Hid (¬ X w.heap.size) := hide fun e => by have := h.H.lt e; omega
  have hnY : Hid (¬ Y w.heap.size) := hide fun e => by have := h.R.lt e; omega
  have HO := hide h
  have HX := hide hx
  have HX2 := hide hx2
  have HV := hide hxl2
  clear h hx hxl hk hx2 hxl2
  obtain ⟨t0, ht0⟩ : ∃ t, isPtr st x2 = t := ⟨_, rfl⟩
  obtain ⟨t1, ht1⟩ : ∃ t, hKind (headOf f st x2) = t := ⟨_, rfl⟩
  obtain ⟨t2, ht2⟩ : ∃ t, hTag (headOf f st x2) = t := ⟨_, rfl⟩
  obtain ⟨t3, ht3⟩ : ∃ t, hRaw (headOf f st x2) = t := ⟨_, rfl⟩
  have KHIs := fun w1 h1 => ht0 ▸ is_any w1 hb X sz tm n f st x2 h1 HV.out
  have KRIs := fun w1 h1 => ht0 ▸ ris_any w1 rb Y sz tm n f st x2 h1 HV.out
  have KHKind := fun w1 h1 => ht1 ▸ heapKind_any w1 hb X sz tm n f st x2 h1 HV.out
  have KRKind := fun w1 h1 => ht1 ▸ rKind_any w1 rb Y sz tm n f st x2 h1 HV.out
  have KHTagged := fun w1 h1 => ht2 ▸ heapTagged_any w1 hb X sz tm n f st x2 h1 HV.out
  have KRTagged := fun w1 h1 => ht2 ▸ rTagged_any w1 rb Y sz tm n f st x2 h1 HV.out
  have KHRaws := fun w1 h1 => ht3 ▸ heapRaws_any w1 hb X sz tm n f st x2 h1 HV.out
  have KRRaws := fun w1 h1 => ht3 ▸ rRaws_any w1 rb Y sz tm n f st x2 h1 HV.out
  have HT := hide (And.intro ht0 (And.intro ht1 (And.intro ht2 ht3)))
  clear ht0 ht1 ht2 ht3
  have e0 : (t0 == t0) = true := by simp
  have e1 : ((t1 : Int) == (t1 : Int)) = true := by simp
  have e2 : ((t2 : Int) == (t2 : Int)) = true := by simp
  have e3 : ((t3 : Int) == (t3 : Int)) = true := by simp
  go_enter Try.func13, Try.ntmps13
  go_wp2_with (first
    | (go_at_call 16; refine (pick_at _ ob hb X rb Y vO sz tm n f st m o a x HX.out (HO.out.fr (ofDrew HQ.out) (fun _ _ e => e)) ha1 ha2).mono ?_; rintro e w1 ⟨rfl, hq'⟩; have hq := drew_more HQ.out hq'; clear cx0 cx1 hq' HQ; have cx0 := boxCell hq 0 _ rfl; have HF := hide (ofDrew hq); have hbl : Hid (w.heap.size < w1.heap.size) := hide (boxLt hq); have HN := hide (HO.out.fr HF.out (fun _ _ e => e)); have co0 := HN.out.cells.1; have co1 := HN.out.cells.2.1; have co2 := HN.out.cells.2.2; clear hq)
    | (go_at_call 16; refine (pick_at _ ob hb X rb Y vO sz tm n f st m o c x2 HX2.out (HO.out.fr (ofDrew ⟨0, rfl⟩) (fun _ _ e => e)) hc1 hc2).mono ?_; rintro e w0 ⟨rfl, hq⟩; have cx0 := boxCell hq 0 _ rfl; have cx1 := boxCell hq 1 _ rfl; have HQ := hide hq; clear hq)
    | (go_at_call 22; refine (KL _).mono ?_; rintro e w9 ⟨rfl, hw⟩; replace hw := hw.symm; subst hw))
  go_quiet ((first
    | (go_at_call 29; exact Calls.quiet_of (KHIs _ (HN.out.H.drewN _)))
    | (go_at_call 42; exact Calls.quiet_of_same (KRIs _ (HN.out.R.drewN _)))
    | (go_at_call 27; exact Calls.quiet_of (KHKind _ (HN.out.H.drewN _)))
    | (go_at_call 43; exact Calls.quiet_of_same (KRKind _ (HN.out.R.drewN _)))
    | (go_at_call 25; exact Calls.quiet_of (KHTagged _ (HN.out.H.drewN _)))
    | (go_at_call 44; exact Calls.quiet_of_same (KRTagged _ (HN.out.R.drewN _)))
    | (go_at_call 26; exact Calls.quiet_of (KHRaws _ (HN.out.H.drewN _)))
    | (go_at_call 45; exact Calls.quiet_of_same (KRRaws _ (HN.out.R.drewN _)))
    ))
  go_wp2
  go_ret
  exact DoEnd.idle (HN.out.fr ((Fr.refl _ _).drewN _) (fun _ _ e => e)) bX bY bo bO (HF.out.drewN _)

end Go.Proofs.Ytfeofdeffmnbkaa
