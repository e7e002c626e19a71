/-
  What is proved here: tandemlaw03's do, of the kinds 3 and 4 (Get, Raw): both heaps answer alike.
-/
import Derived.Test.YtfeofdeffmnbkaaHDo
import Derived.BigQuiet
import Derived.Deep.RegionHeld3
import Derived.Deep.AppendLies
namespace Go.Proofs.Ytfeofdeffmnbkaa
open Go Go.RowKit

set_option maxRecDepth 20000 in
set_option maxHeartbeats 20000000 in
theorem do3_false (B : Nat) (w : World) (ob hb rb sz : Nat) (tm : Int) (n : Nat) (f : Nat → Nat) (st : Nat → Bool) (m : Nat) (o : Nat → Nat) (k a b c : Int) (y : Nat) (vR : Value) (l : Nat) (h : OnAt B w ob hb rb sz tm n f st m o) (_hB : B ≤ w.heap.size)
    (hk1 : -9223372036854775808 ≤ k) (hk2 : k ≤ 9223372036854775807) (ha1 : -9223372036854775808 ≤ a) (ha2 : a ≤ 9223372036854775807) (_hy : y < 18446744073709551616) (hk : (k % ((7 : Nat) : Int)).toNat = 3) :
    Calls Try.prog 13 #[.pointer (some ⟨ob, 0, none⟩), .agg #[.int .i64 k, .int .i64 a, .int .i64 b, .int .i64 c, .int .u64 (y : Int), .bool false, vR]] w fun e w' => DoEnd B w ob hb rb sz l tm n f st m o e w' := by
  obtain ⟨X, Y, vO, h, bX, bY, bo, bO⟩ := h
  obtain ⟨x, hx⟩ : ∃ x, pk m o a = x := ⟨_, rfl⟩
  have hxl : x < 18446744073709551616 := hx ▸ pk_lt h.ol a
  have KL := place_at k 3 hk hk1 hk2
  have hnX : Hid (¬ X w.heap.size) := hide fun e => by have := h.H.lt e; omega
  have hnY : Hid (¬ Y w.heap.size) := hide fun e => by have := h.R.lt e; omega
  have HO := hide h
  have HX := hide hx
  obtain ⟨gv, gb, KH, KR⟩ := get_both n f st x b hxl
  clear h hx hxl hk
  go_enter Try.func13, Try.ntmps13
  go_wp2_with (first
    | (go_at_call 16; refine (pick_at _ ob hb X rb Y vO sz tm n f st m o a x HX.out (HO.out.fr (ofDrew ⟨0, rfl⟩) (fun _ _ e => e)) ha1 ha2).mono ?_; rintro e w1 ⟨rfl, hq⟩; have cx0 := boxCell hq 0 _ rfl; have cx2 := boxCell hq 2 _ rfl; have HF := hide (ofDrew hq); have hbl : Hid (w.heap.size < w1.heap.size) := hide (boxLt hq); have HN := hide (HO.out.fr HF.out (fun _ _ e => e)); have co0 := HN.out.cells.1; have co1 := HN.out.cells.2.1; have co2 := HN.out.cells.2.2; clear hq)
    | (go_at_call 22; refine (KL _).mono ?_; rintro e w9 ⟨rfl, hw⟩; replace hw := hw.symm; subst hw))
  go_quiet ((go_at_call 32; exact Calls.quiet_of (KH _ hb X sz tm (HN.out.H.drewN _))))
  go_wp2
  go_quiet ((go_at_call 39; exact quiet_on (KR _ rb Y sz tm (HN.out.R.drewN _))))
  go_wp2
  go_ret
  exact DoEnd.idle (HN.out.fr ((Fr.refl _ _).drewN _) (fun _ _ e => e)) bX bY bo bO (HF.out.drewN _)

set_option maxRecDepth 20000 in
set_option maxHeartbeats 20000000 in
theorem do3_true (B : Nat) (w : World) (ob hb rb sz : Nat) (tm : Int) (n : Nat) (f : Nat → Nat) (st : Nat → Bool) (m : Nat) (o : Nat → Nat) (k a b c : Int) (y : Nat) (vR : Value) (l : Nat) (h : OnAt B w ob hb rb sz tm n f st m o) (_hB : B ≤ w.heap.size)
    (hk1 : -9223372036854775808 ≤ k) (hk2 : k ≤ 9223372036854775807) (ha1 : -9223372036854775808 ≤ a) (ha2 : a ≤ 9223372036854775807) (hc1 : -9223372036854775808 ≤ c) (hc2 : c ≤ 9223372036854775807) (_hy : y < 18446744073709551616) (hk : (k % ((7 : Nat) : Int)).toNat = 3) :
    Calls Try.prog 13 #[.pointer (some ⟨ob, 0, none⟩), .agg #[.int .i64 k, .int .i64 a, .int .i64 b, .int .i64 c, .int .u64 (y : Int), .bool true, vR]] w fun e w' => DoEnd B w ob hb rb sz l tm n f st m o e w' := by
  obtain ⟨X, Y, vO, h, bX, bY, bo, bO⟩ := h
  obtain ⟨x, hx⟩ : ∃ x, pk m o a = x := ⟨_, rfl⟩
  have hxl : x < 18446744073709551616 := hx ▸ pk_lt h.ol a
  obtain ⟨x2, hx2⟩ : ∃ x, pk m o c = x := ⟨_, rfl⟩
  have hxl2 : x2 < 18446744073709551616 := hx2 ▸ pk_lt h.ol c
  have KL := place_at k 3 hk hk1 hk2
  have hnX : Hid (¬ X w.heap.size) := hide fun e => by have := h.H.lt e; omega
  have hnY : Hid (¬ Y w.heap.size) := hide fun e => by have := h.R.lt e; omega
  have HO := hide h
  have HX := hide hx
  have HX2 := hide hx2
  obtain ⟨gv, gb, KH, KR⟩ := get_both n f st x b hxl
  clear h hx hxl hk hx2 hxl2
  go_enter Try.func13, Try.ntmps13
  go_wp2_with (first
    | (go_at_call 16; refine (pick_at _ ob hb X rb Y vO sz tm n f st m o a x HX.out (HO.out.fr (ofDrew HQ.out) (fun _ _ e => e)) ha1 ha2).mono ?_; rintro e w1 ⟨rfl, hq'⟩; have hq := drew_more HQ.out hq'; clear cx0 cx1 hq' HQ; have cx0 := boxCell hq 0 _ rfl; have cx2 := boxCell hq 2 _ rfl; have HF := hide (ofDrew hq); have hbl : Hid (w.heap.size < w1.heap.size) := hide (boxLt hq); have HN := hide (HO.out.fr HF.out (fun _ _ e => e)); have co0 := HN.out.cells.1; have co1 := HN.out.cells.2.1; have co2 := HN.out.cells.2.2; clear hq)
    | (go_at_call 16; refine (pick_at _ ob hb X rb Y vO sz tm n f st m o c x2 HX2.out (HO.out.fr (ofDrew ⟨0, rfl⟩) (fun _ _ e => e)) hc1 hc2).mono ?_; rintro e w0 ⟨rfl, hq⟩; have cx0 := boxCell hq 0 _ rfl; have cx1 := boxCell hq 1 _ rfl; have HQ := hide hq; clear hq)
    | (go_at_call 22; refine (KL _).mono ?_; rintro e w9 ⟨rfl, hw⟩; replace hw := hw.symm; subst hw))
  go_quiet ((go_at_call 32; exact Calls.quiet_of (KH _ hb X sz tm (HN.out.H.drewN _))))
  go_wp2
  go_quiet ((go_at_call 39; exact quiet_on (KR _ rb Y sz tm (HN.out.R.drewN _))))
  go_wp2
  go_ret
  exact DoEnd.idle (HN.out.fr ((Fr.refl _ _).drewN _) (fun _ _ e => e)) bX bY bo bO (HF.out.drewN _)

set_option maxRecDepth 20000 in
set_option maxHeartbeats 20000000 in
theorem do4_false (B : Nat) (w : World) (ob hb rb sz : Nat) (tm : Int) (n : Nat) (f : Nat → Nat) (st : Nat → Bool) (m : Nat) (o : Nat → Nat) (k a b c : Int) (y : Nat) (vR : Value) (l : Nat) (h : OnAt B w ob hb rb sz tm n f st m o) (_hB : B ≤ w.heap.size)
    (hk1 : -9223372036854775808 ≤ k) (hk2 : k ≤ 9223372036854775807) (ha1 : -9223372036854775808 ≤ a) (ha2 : a ≤ 9223372036854775807) (_hy : y < 18446744073709551616) (hk : (k % ((7 : Nat) : Int)).toNat = 4) :
    Calls Try.prog 13 #[.pointer (some ⟨ob, 0, none⟩), .agg #[.int .i64 k, .int .i64 a, .int .i64 b, .int .i64 c, .int .u64 (y : Int), .bool false, vR]] w fun e w' => DoEnd B w ob hb rb sz l tm n f st m o e w' := by
  obtain ⟨X, Y, vO, h, bX, bY, bo, bO⟩ := h
  obtain ⟨x, hx⟩ : ∃ x, pk m o a = x := ⟨_, rfl⟩
  have hxl : x < 18446744073709551616 := hx ▸ pk_lt h.ol a
  have KL := place_at k 4 hk hk1 hk2
  have hnX : Hid (¬ X w.heap.size) := hide fun e => by have := h.H.lt e; omega
  have hnY : Hid (¬ Y w.heap.size) := hide fun e => by have := h.R.lt e; omega
  have HO := hide h
  have HX := hide hx
  obtain ⟨gv, gb, KH, KR⟩ := raw_both n f st x b hxl
  clear h hx hxl hk
  go_enter Try.func13, Try.ntmps13
  go_wp2_with (first
    | (go_at_call 16; refine (pick_at _ ob hb X rb Y vO sz tm n f st m o a x HX.out (HO.out.fr (ofDrew ⟨0, rfl⟩) (fun _ _ e => e)) ha1 ha2).mono ?_; rintro e w1 ⟨rfl, hq⟩; have cx0 := boxCell hq 0 _ rfl; have cx2 := boxCell hq 2 _ rfl; have HF := hide (ofDrew hq); have hbl : Hid (w.heap.size < w1.heap.size) := hide (boxLt hq); have HN := hide (HO.out.fr HF.out (fun _ _ e => e)); have co0 := HN.out.cells.1; have co1 := HN.out.cells.2.1; have co2 := HN.out.cells.2.2; clear hq)
    | (go_at_call 22; refine (KL _).mono ?_; rintro e w9 ⟨rfl, hw⟩; replace hw := hw.symm; subst hw))
  go_quiet ((go_at_call 33; exact Calls.quiet_of (KH _ hb X sz tm (HN.out.H.drewN _))))
  go_wp2
  go_quiet ((go_at_call 40; exact quiet_on (KR _ rb Y sz tm (HN.out.R.drewN _))))
  go_wp2
  go_ret
  exact DoEnd.idle (HN.out.fr ((Fr.refl _ _).drewN _) (fun _ _ e => e)) bX bY bo bO (HF.out.drewN _)

set_option maxRecDepth 20000 in
set_option maxHeartbeats 20000000 in
theorem do4_true (B : Nat) (w : World) (ob hb rb sz : Nat) (tm : Int) (n : Nat) (f : Nat → Nat) (st : Nat → Bool) (m : Nat) (o : Nat → Nat) (k a b c : Int) (y : Nat) (vR : Value) (l : Nat) (h : OnAt B w ob hb rb sz tm n f st m o) (_hB : B ≤ w.heap.size)
    (hk1 : -9223372036854775808 ≤ k) (hk2 : k ≤ 9223372036854775807) (ha1 : -9223372036854775808 ≤ a) (ha2 : a ≤ 9223372036854775807) (hc1 : -9223372036854775808 ≤ c) (hc2 : c ≤ 9223372036854775807) (_hy : y < 18446744073709551616) (hk : (k % ((7 : Nat) : Int)).toNat = 4) :
    Calls Try.prog 13 #[.pointer (some ⟨ob, 0, none⟩), .agg #[.int .i64 k, .int .i64 a, .int .i64 b, .int .i64 c, .int .u64 (y : Int), .bool true, vR]] w fun e w' => DoEnd B w ob hb rb sz l tm n f st m o e w' := by
  obtain ⟨X, Y, vO, h, bX, bY, bo, bO⟩ := h
  obtain ⟨x, hx⟩ : ∃ x, pk m o a = x := ⟨_, rfl⟩
  have hxl : x < 18446744073709551616 := hx ▸ pk_lt h.ol a
  obtain ⟨x2, hx2⟩ : ∃ x, pk m o c = x := ⟨_, rfl⟩
  have hxl2 : x2 < 18446744073709551616 := hx2 ▸ pk_lt h.ol c
  have KL := place_at k 4 hk hk1 hk2
  have hnX : Hid (¬ X w.heap.size) := hide fun e => by have := h.H.lt e; omega
  have hnY : Hid (¬ Y w.heap.size) := hide fun e => by have := h.R.lt e; omega
  have HO := hide h
  have HX := hide hx
  have HX2 := hide hx2
  obtain ⟨gv, gb, KH, KR⟩ := raw_both n f st x b hxl
  clear h hx hxl hk hx2 hxl2
  go_enter Try.func13, Try.ntmps13
  go_wp2_with (first
    | (go_at_call 16; refine (pick_at _ ob hb X rb Y vO sz tm n f st m o a x HX.out (HO.out.fr (ofDrew HQ.out) (fun _ _ e => e)) ha1 ha2).mono ?_; rintro e w1 ⟨rfl, hq'⟩; have hq := drew_more HQ.out hq'; clear cx0 cx1 hq' HQ; have cx0 := boxCell hq 0 _ rfl; have cx2 := boxCell hq 2 _ rfl; have HF := hide (ofDrew hq); have hbl : Hid (w.heap.size < w1.heap.size) := hide (boxLt hq); have HN := hide (HO.out.fr HF.out (fun _ _ e => e)); have co0 := HN.out.cells.1; have co1 := HN.out.cells.2.1; have co2 := HN.out.cells.2.2; clear hq)
    | (go_at_call 16; refine (pick_at _ ob hb X rb Y vO sz tm n f st m o c x2 HX2.out (HO.out.fr (ofDrew ⟨0, rfl⟩) (fun _ _ e => e)) hc1 hc2).mono ?_; rintro e w0 ⟨rfl, hq⟩; have cx0 := boxCell hq 0 _ rfl; have cx1 := boxCell hq 1 _ rfl; have HQ := hide hq; clear hq)
    | (go_at_call 22; refine (KL _).mono ?_; rintro e w9 ⟨rfl, hw⟩; replace hw := hw.symm; subst hw))
  go_quiet ((go_at_call 33; exact Calls.quiet_of (KH _ hb X sz tm (HN.out.H.drewN _))))
  go_wp2
  go_quiet ((go_at_call 40; exact quiet_on (KR _ rb Y sz tm (HN.out.R.drewN _))))
  go_wp2
  go_ret
  exact DoEnd.idle (HN.out.fr ((Fr.refl _ _).drewN _) (fun _ _ e => e)) bX bY bo bO (HF.out.drewN _)

end Go.Proofs.Ytfeofdeffmnbkaa
