/-
  What is proved here: tandemref02.fits; num.Power of numbers below nought. tandemref02.Power. tandemref02.Power, the loop. tandemref02.Power of 0, 1 and -1. the walk of NumPowers.
-/
import Derived.Test.YtjbocfhmfidjjaaDoorNPowW
import Derived.Test.YtjbocfhmfidjjaaDoorR2Mul
import Derived.Test.YtjbocfhmfidjjaaDoorRText
namespace Go.Proofs.YtjbocfhmfidjjaaDoor
open Go Go.RowKit

set_option maxRecDepth 20000 in
theorem fits_yes (b : Bool) (ao : Option Addr) (n cap : Nat) (f : Nat → Nat) (limit : Nat) (w : World) (hs : Sl .u32 w (.slice ao n cap) n f) (hd : ∀ i, i < n → f i < 4294967296) (hn : n ≤ 1000000000000) (hl : bitLen (num 4294967296 f n) ≤ limit) :
    Calls Tryd.prog 69 #[.agg #[.bool b, .slice ao n cap], .int .i64 (limit : Int)] w fun e w' => e = .returned (.tuple #[.agg #[.bool b, .slice ao n cap], .bool true]) ∧ Up w w' ∧ Sl .u32 w' (.slice ao n cap) n f := by
  have hl2 : ¬ (limit : Int) < (bitLen (num 4294967296 f n) : Int) := by omega
  obtain ⟨Bl, hBl⟩ : ∃ B, B = bitLen (num 4294967296 f n) := ⟨_, rfl⟩
  have HBl := hide hBl
  rw [← hBl] at hl2
  clear hBl hl
  have HS := hide hs
  have HD := hide hd
  clear hs hd
  have K2 := hide (two_blocks w (.cells #[.bool b, .slice ao n cap] 26) (.cells #[.bool false, .slice none 0 0] 26))
  have HU := hide ((up_alloc w (.cells #[.bool b, .slice ao n cap] 26)).tr (up_alloc _ (.cells #[.bool false, .slice none 0 0] 26)))
  go_enter Tryd.func69, Tryd.ntmps69
  go_wp2_with fail
  refine (rbits_any _ n f _ (HS.out.up HU.out) HD.out hn).mono ?_
  rintro e w1 ⟨rfl, U1⟩
  replace U1 : Up _ w1 := U1
  rw [← HBl.out]
  have bb := U1.blk K2.out.2
  obtain ⟨k0, k1, _⟩ := cells2 (U1.blk K2.out.1)
  obtain ⟨k2, k3, k4, k5, _⟩ := cells2 bb
  have HU1 := hide U1
  clear U1
  go_wp2_with fail
  obtain ⟨t6, b6⟩ := sto_two bb (.bool b) (.slice ao n cap)
  obtain ⟨y0, y1, _, _, _⟩ := cells2 b6
  refine bodyPost_ret (by simp [results, Tryd.results69, go_sem, y0, y1]; rfl) rfl ?_
  refine ⟨rfl, t6.up (HU.out.tr HU1.out) (by omega), sl_otherN bb (HS.out.up (HU.out.tr HU1.out)) t6.block⟩

set_option maxRecDepth 20000 in
theorem fits_no (b : Bool) (ao : Option Addr) (n cap : Nat) (f : Nat → Nat) (limit : Nat) (w : World) (hs : Sl .u32 w (.slice ao n cap) n f) (hd : ∀ i, i < n → f i < 4294967296) (hn : n ≤ 1000000000000) (hl : limit < bitLen (num 4294967296 f n)) :
    Calls Tryd.prog 69 #[.agg #[.bool b, .slice ao n cap], .int .i64 (limit : Int)] w fun e w' => e = .returned (.tuple #[.agg #[.bool false, .slice none 0 0], .bool false]) ∧ Up w w' := by
  have hl2 : (limit : Int) < (bitLen (num 4294967296 f n) : Int) := by omega
  obtain ⟨Bl, hBl⟩ : ∃ B, B = bitLen (num 4294967296 f n) := ⟨_, rfl⟩
  have HBl := hide hBl
  rw [← hBl] at hl2
  clear hBl hl
  have HS := hide hs
  have HD := hide hd
  clear hs hd
  have K2 := hide (two_blocks w (.cells #[.bool b, .slice ao n cap] 26) (.cells #[.bool false, .slice none 0 0] 26))
  have HU := hide ((up_alloc w (.cells #[.bool b, .slice ao n cap] 26)).tr (up_alloc _ (.cells #[.bool false, .slice none 0 0] 26)))
  go_enter Tryd.func69, Tryd.ntmps69
  go_wp2_with fail
  refine (rbits_any _ n f _ (HS.out.up HU.out) HD.out hn).mono ?_
  rintro e w1 ⟨rfl, U1⟩
  replace U1 : Up _ w1 := U1
  rw [← HBl.out]
  have bb := U1.blk K2.out.2
  obtain ⟨k0, k1, _⟩ := cells2 (U1.blk K2.out.1)
  obtain ⟨k2, k3, k4, k5, _⟩ := cells2 bb
  have HU1 := hide U1
  clear U1
  go_wp2_with fail
  obtain ⟨t6, b6⟩ := sto_two bb (.bool false) (.slice none 0 0)
  obtain ⟨y0, y1, _, _, _⟩ := cells2 b6
  refine bodyPost_ret (by simp [results, Tryd.results69, go_sem, y0, y1]; rfl) rfl ?_
  refine ⟨rfl, t6.up (HU.out.tr HU1.out) (by omega)⟩

set_option maxRecDepth 20000 in
theorem power_neg (b : Bool) (v : Value) (n limit : Int) (w : World) (h : n < 0 ∨ limit < 0) :
    Calls Tryd.prog 40 #[.agg #[.bool b, v], .int .i64 n, .int .i64 limit] w fun e w' => e = .returned (.tuple #[.agg #[.bool false, .slice none 0 0], .bool false]) ∧ Up w w' := by
  by_cases h1 : n < 0
  · go_enter Tryd.func40, Tryd.ntmps40
    go_wp2
    obtain ⟨y0, y1, _, _, _⟩ := cells2 (two_blocks w (.cells #[.bool b, v] 26) (.cells #[.bool false, .slice none 0 0] 26)).2
    refine bodyPost_ret (by simp [results, Tryd.results40, go_sem, y0, y1]; rfl) rfl ?_
    exact ⟨rfl, (up_alloc _ _).tr (up_alloc _ _)⟩
  · have h2 : limit < 0 := by omega
    go_enter Tryd.func40, Tryd.ntmps40
    go_wp2
    obtain ⟨y0, y1, _, _, _⟩ := cells2 (two_blocks w (.cells #[.bool b, v] 26) (.cells #[.bool false, .slice none 0 0] 26)).2
    refine bodyPost_ret (by simp [results, Tryd.results40, go_sem, y0, y1]; rfl) rfl ?_
    exact ⟨rfl, (up_alloc _ _).tr (up_alloc _ _)⟩

theorem RdC.turnP {X : Int} {M g m c0 : Nat} {p : Bool} {ao0 : Option Addr} {w w' : World} {a : Value} {E : TypeId} (h : RdC X M w a) (t : Turn g w w') (hg : w.heap[g]? = some (.cells #[.bool p, .slice ao0 m c0] E (0, 0))) : RdC X M w' a := by
  obtain ⟨b, n, f, ⟨v, rfl, hs⟩, r⟩ := h
  exact ⟨b, n, f, ⟨_, rfl, sl_otherN hg hs t.block⟩, r⟩
theorem RdC.form {X : Int} {M : Nat} {w : World} {a : Value} (h : RdC X M w a) : ∃ b ao n cap, a = .agg #[.bool b, .slice ao n cap] := by
  obtain ⟨b, n, f, ⟨v, rfl, ao, cap, rfl, _⟩, _⟩ := h
  exact ⟨b, ao, n, cap, rfl⟩
theorem bits_rd {X : Int} {M : Nat} {w : World} {b : Bool} {ao : Option Addr} {n cap : Nat} (h : RdC X M w (.agg #[.bool b, .slice ao n cap])) (hM : M ≤ 1000000000000) :
    Calls Tryd.prog 68 #[.slice ao n cap] w fun e w' => e = .returned (.int .i64 (bitLen X.natAbs)) ∧ Up w w' := by
  obtain ⟨b', n', f, ⟨v, e, hs⟩, hc, hl, hX⟩ := h
  cases e
  refine (rbits_any _ n' f w hs hc.1.1 (by omega)).mono ?_
  rintro e w' ⟨rfl, U⟩
  exact ⟨by rw [← hX, sgn_natAbs], U⟩

theorem r2mul2_rd {X Y : Int} {M1 M2 : Nat} {w : World} {b1 b2 : Bool} {v1 v2 : Value} {E : TypeId} (h : RdD X M1 w (.agg #[.bool b1, v1])) (k : RdD Y M2 w (.agg #[.bool b2, v2])) (hM : 2 * (M1 + M2 + 2) + 5 ≤ 1000000000) :
    Calls Tryd.prog 22 #[.slice (some ⟨w.heap.size, 0, none⟩) 2 2] (w.alloc (.cells #[.bool b1, v1, .bool b2, v2] E)) fun e w' => ∃ v, e = .returned v ∧ RdC (X * Y) (M1 + M2 + 2) w' v ∧ Up w w' := by
  have e1 : prodZ (pair X Y) 2 = X * Y := by simp [prodZ, pair]
  have e2 : sumN (pair M1 M2) 2 = M1 + M2 := by simp [sumN, pair]
  refine (r2mul_any _ 2 2 (pair v1 v2) (pair b1 b2) (pair M1 M2) (pair X Y) _ (rdn_two w v1 v2 b1 b2 E) (fun j hj => ?_) (by rw [e2]; omega) (by decide)).mono ?_
  · match j, hj with
    | 0, _ => exact h.up (up_alloc _ _)
    | 1, _ => exact k.up (up_alloc _ _)
  · rintro e w' ⟨v, rfl, n, u⟩
    rw [e1, e2] at n
    exact ⟨v, rfl, n.rc, (up_alloc _ _).tr u⟩
/-- A canonical number of few binary digits has few limbs. -/
theorem RdC.few {X : Int} {M L : Nat} {w : World} {a : Value} (h : RdC X M w a) (hb : bitLen X.natAbs ≤ L) : RdC X L w a := by
  obtain ⟨b, n, f, c, d, l, s⟩ := h
  exact ⟨b, n, f, c, d, can_most d.1 (by rw [← sgn_natAbs b (num 4294967296 f n), s]; exact hb), s⟩
structure PwR (w wr : World) (gp : Nat) (b1 : Bool) (ao1 : Option Addr) (m1 cap1 : Nat) (Z : Int) (M j limit : Nat) (b2 : Bool) (ao2 : Option Addr) (m2 cap2 : Nat) : Prop where
  bp : wr.heap[gp]? = some (.cells #[.bool b2, .slice ao2 m2 cap2] 26 (0, 0))
  b3 : wr.heap[w.heap.size]? = some (.cells #[.bool b1, .slice ao1 m1 cap1] 26 (0, 0))
  b6 : wr.heap[w.heap.size + 1]? = some (.cells #[.bool false, .slice none 0 0] 26 (0, 0))
  U : Up w wr
  pr : RdC (Z ^ j) 1000000 wr (.agg #[.bool b2, .slice ao2 m2 cap2])
  ar : RdC Z M wr (.agg #[.bool b1, .slice ao1 m1 cap1])
  fit : j = 0 ∨ bitLen (Z.natAbs ^ j) ≤ limit
theorem RdC.wideC {X : Int} {M M' : Nat} {w : World} {a : Value} (h : RdC X M w a) (hM : M ≤ M') : RdC X M' w a := by
  obtain ⟨b, n, f, c, d, l, s⟩ := h
  exact ⟨b, n, f, c, d, by omega, s⟩

set_option maxRecDepth 20000 in
set_option maxHeartbeats 4000000 in
theorem r2power_many (a : Value) (Z : Int) (M n limit : Nat) (w : World) (ha : RdD Z M w a) (hM : M ≤ 2000000) (hn : n < 9223372036854775808) (hl : limit ≤ 1000000) (hZ : 2 ≤ bitLen Z.natAbs) (hnl : limit < n) :
    Calls Tryd.prog 41 #[a, .int .i64 (n : Int), .int .i64 (limit : Int)] w fun e w' => e = .returned (.tuple #[.agg #[.bool false, .slice none 0 0], .bool false]) ∧ Up w w' := by
  obtain ⟨b, m, f, ⟨v, rfl, hv⟩, hd, hM2, hz⟩ := ha
  obtain ⟨ao, cap, rfl, -⟩ := id hv
  have hn0 : ¬ (n : Int) < 0 := by omega
  have hl0 : ¬ (limit : Int) < 0 := by omega
  have hnl2 : (limit : Int) < (n : Int) := by omega
  have HRd : Hid (∀ W, Up w W → RdD Z M W (.agg #[.bool b, .slice ao m cap])) := hide (fun W u => ⟨b, m, f, ⟨_, rfl, hv.up u⟩, hd, hM2, hz⟩)
  clear hv hd hz hM2
  obtain ⟨L, hL⟩ : ∃ L, L = bitLen Z.natAbs := ⟨_, rfl⟩
  rw [← hL] at hZ
  have hL1 : ¬ (L : Int) ≤ 1 := by omega
  have HL := hide hL
  clear hL
  have K2 := hide (two_blocks w (.cells #[.bool b, .slice ao m cap] 26) (.cells #[.bool false, .slice none 0 0] 26))
  have HU := hide ((up_alloc w (.cells #[.bool b, .slice ao m cap] 26)).tr (up_alloc _ (.cells #[.bool false, .slice none 0 0] 26)))
  go_enter Tryd.func41, Tryd.ntmps41
  go_wp2_with fail
  refine (r2canon_rd (HRd.out _ HU.out) (by omega)).mono ?_
  rintro e w1 ⟨v1, rfl, n1, u1⟩
  have r1 := n1.rc
  clear n1
  obtain ⟨b1, ao1, m1, cap1, rfl⟩ := r1.form
  have t3 := u1.blk K2.out.1
  have t6 := u1.blk K2.out.2
  obtain ⟨T, s3⟩ := sto_two t3 (.bool b1) (.slice ao1 m1 cap1)
  have r1' := r1.turnP T t3
  have s6 := (T.block (w.heap.size + 1) (by omega)).trans t6
  have U1 := hide (T.up (HU.out.tr u1) (Nat.le_refl _))
  obtain ⟨k0, k1, k2, k3, _⟩ := cells2 t3
  have HT := hide (And.intro s3 (And.intro s6 r1'))
  clear s3 s6 r1' t3 t6 r1 u1 T
  go_wp2_with fail
  generalize (w1.setCell ⟨w.heap.size, 0, none⟩ (.bool b1)).setCell ⟨w.heap.size, 1, none⟩ (.slice ao1 m1 cap1) = W1 at *
  refine (r2int_rd 1 W1 (by decide) (by decide)).mono ?_
  rintro e w2 ⟨v2, rfl, n2, u2⟩
  have r2 := n2.rc
  clear n2 k0 k1 k2 k3
  obtain ⟨b2, ao2, m2, cap2, rfl⟩ := r2.form
  have A2 := up_alloc w2 (.cells #[.bool b2, .slice ao2 m2 cap2] 26)
  have V2 := hide (u2.tr A2)
  obtain ⟨k0, k1, _⟩ := cells2 (V2.out.blk HT.out.1)
  have HP := hide (heap_alloc_new w2 (.cells #[.bool b2, .slice ao2 m2 cap2] 26))
  have HR2 := hide (r2.up A2)
  clear r2 A2 u2
  go_wp2_with fail
  refine (bits_rd (HT.out.2.2.up V2.out) (by omega)).mono ?_
  rintro e w3 ⟨rfl, u3⟩
  rw [← HL.out]
  have HU3 := hide u3
  have t6 := u3.blk (V2.out.blk HT.out.2.1)
  obtain ⟨k2, k3, k4, k5, _⟩ := cells2 t6
  clear u3 k0 k1
  go_wp2_with fail
  obtain ⟨T6, s6⟩ := sto_two t6 (.bool false) (.slice none 0 0)
  obtain ⟨y0, y1, _, _, _⟩ := cells2 s6
  refine bodyPost_ret (by simp [results, Tryd.results41, go_sem, y0, y1]; rfl) rfl ?_
  exact ⟨rfl, T6.up (U1.out.tr (V2.out.tr HU3.out)) (by omega)⟩

set_option maxRecDepth 20000 in
set_option maxHeartbeats 4000000 in
theorem r2power_neg (a : Value) (Z : Int) (M : Nat) (n limit : Int) (w : World) (ha : RdD Z M w a) (hM : M ≤ 2000000) (h : n < 0 ∨ limit < 0) :
    Calls Tryd.prog 41 #[a, .int .i64 n, .int .i64 limit] w fun e w' => e = .returned (.tuple #[.agg #[.bool false, .slice none 0 0], .bool false]) ∧ Up w w' := by
  obtain ⟨b, m, f, ⟨v, rfl, hv⟩, hd, hM2, hz⟩ := ha
  obtain ⟨ao, cap, rfl, -⟩ := id hv
  have HRd : Hid (∀ W, Up w W → RdD Z M W (.agg #[.bool b, .slice ao m cap])) := hide (fun W u => ⟨b, m, f, ⟨_, rfl, hv.up u⟩, hd, hM2, hz⟩)
  clear hv hd hz hM2
  have K2 := hide (two_blocks w (.cells #[.bool b, .slice ao m cap] 26) (.cells #[.bool false, .slice none 0 0] 26))
  have HU := hide ((up_alloc w (.cells #[.bool b, .slice ao m cap] 26)).tr (up_alloc _ (.cells #[.bool false, .slice none 0 0] 26)))
  go_enter Tryd.func41, Tryd.ntmps41
  go_wp2_with fail
  refine (r2canon_rd (HRd.out _ HU.out) (by omega)).mono ?_
  rintro e w1 ⟨v1, rfl, n1, u1⟩
  have r1 := n1.rc
  clear n1
  obtain ⟨b1, ao1, m1, cap1, rfl⟩ := r1.form
  have t3 := u1.blk K2.out.1
  have t6 := u1.blk K2.out.2
  obtain ⟨T, s3⟩ := sto_two t3 (.bool b1) (.slice ao1 m1 cap1)
  have s6 := (T.block (w.heap.size + 1) (by omega)).trans t6
  have U1 := hide (T.up (HU.out.tr u1) (Nat.le_refl _))
  obtain ⟨k0, k1, k2, k3, _⟩ := cells2 t3
  obtain ⟨k4, k5, k6, k7, _⟩ := cells2 s6
  have HT := hide s6
  clear s3 s6 t3 t6 r1 u1 T
  by_cases h1 : n < 0
  all_goals
    have h2 : n < 0 ∨ limit < 0 := h
    simp only [h1, true_or, false_or] at h2
    go_wp2_with fail
    obtain ⟨T6, s6⟩ := sto_two HT.out (.bool false) (.slice none 0 0)
    obtain ⟨y0, y1, _, _, _⟩ := cells2 s6
    refine bodyPost_ret (by simp [results, Tryd.results41, go_sem, y0, y1]; rfl) rfl ?_
    exact ⟨rfl, T6.up U1.out (by omega)⟩

set_option maxRecDepth 20000 in
theorem fits_rdy {X : Int} {M limit : Nat} {w : World} {b : Bool} {ao : Option Addr} {n cap : Nat} (h : RdC X M w (.agg #[.bool b, .slice ao n cap])) (hM : M ≤ 1000000000000) (hf : bitLen X.natAbs ≤ limit) :
    Calls Tryd.prog 69 #[.agg #[.bool b, .slice ao n cap], .int .i64 (limit : Int)] w fun e w' => e = .returned (.tuple #[.agg #[.bool b, .slice ao n cap], .bool true]) ∧ Up w w' := by
  obtain ⟨b', n', f', ⟨v', e', hs'⟩, hc', hl', hX'⟩ := h
  cases e'
  obtain ⟨_, _, e1, _⟩ := id hs'
  cases e1
  refine (fits_yes b ao _ cap f' limit w hs' hc'.1.1 (by omega) ?_).mono ?_
  · rw [← hX', sgn_natAbs] at hf
    exact hf
  · rintro e w' ⟨h1, h2, _⟩
    exact ⟨h1, h2⟩
set_option maxRecDepth 20000 in
theorem fits_rdn {X : Int} {M limit : Nat} {w : World} {b : Bool} {ao : Option Addr} {n cap : Nat} (h : RdC X M w (.agg #[.bool b, .slice ao n cap])) (hM : M ≤ 1000000000000) (hf : limit < bitLen X.natAbs) :
    Calls Tryd.prog 69 #[.agg #[.bool b, .slice ao n cap], .int .i64 (limit : Int)] w fun e w' => e = .returned (.tuple #[.agg #[.bool false, .slice none 0 0], .bool false]) ∧ Up w w' := by
  obtain ⟨b', n', f', ⟨v', e', hs'⟩, hc', hl', hX'⟩ := h
  cases e'
  obtain ⟨_, _, e1, _⟩ := id hs'
  cases e1
  refine fits_no b ao _ cap f' limit w hs' hc'.1.1 (by omega) ?_
  rw [← hX', sgn_natAbs] at hf
  exact hf

set_option maxRecDepth 20000 in
set_option maxHeartbeats 400000 in
theorem r2power_loop (a : Value) (Z : Int) (M n limit : Nat) (w : World) (ha : RdD Z M w a) (hM : M ≤ 2000000) (hn : n < 9223372036854775808) (hl : limit ≤ 1000000) (hZ : 2 ≤ bitLen Z.natAbs) (hnl : n ≤ limit) :
    Calls Tryd.prog 41 #[a, .int .i64 (n : Int), .int .i64 (limit : Int)] w fun e w' => PowEnd Z n limit w e w' := by
  obtain ⟨b, m, f, ⟨v, rfl, hv⟩, hd, hM2, hz⟩ := ha
  obtain ⟨ao, cap, rfl, -⟩ := id hv
  have hn0 : ¬ (n : Int) < 0 := by omega
  have hl0 : ¬ (limit : Int) < 0 := by omega
  have hnl2 : ¬ (limit : Int) < (n : Int) := by omega
  have hnl3 : decide (limit < n) = false := decide_eq_false (by omega)
  have hnl4 : decide ((limit : Int) < (n : Int)) = false := decide_eq_false (by omega)
  have HRd : Hid (∀ W, Up w W → RdD Z M W (.agg #[.bool b, .slice ao m cap])) := hide (fun W u => ⟨b, m, f, ⟨_, rfl, hv.up u⟩, hd, hM2, hz⟩)
  clear hv hd hz hM2
  obtain ⟨L, hL⟩ : ∃ L, L = bitLen Z.natAbs := ⟨_, rfl⟩
  rw [← hL] at hZ
  have hL1 : ¬ (L : Int) ≤ 1 := by omega
  have HL := hide hL
  clear hL
  have K2 := hide (two_blocks w (.cells #[.bool b, .slice ao m cap] 26) (.cells #[.bool false, .slice none 0 0] 26))
  have HU := hide ((up_alloc w (.cells #[.bool b, .slice ao m cap] 26)).tr (up_alloc _ (.cells #[.bool false, .slice none 0 0] 26)))
  go_enter Tryd.func41, Tryd.ntmps41
  go_wp2_with fail
  refine (r2canon_rd (HRd.out _ HU.out) (by omega)).mono ?_
  rintro e w1 ⟨v1, rfl, n1, u1⟩
  have r1 := n1.rc
  clear n1
  obtain ⟨b1, ao1, m1, cap1, rfl⟩ := r1.form
  have t3 := u1.blk K2.out.1
  have t6 := u1.blk K2.out.2
  obtain ⟨T, s3⟩ := sto_two t3 (.bool b1) (.slice ao1 m1 cap1)
  have r1' := r1.turnP T t3
  have s6 := (T.block (w.heap.size + 1) (by omega)).trans t6
  have U1 := hide (T.up (HU.out.tr u1) (Nat.le_refl _))
  obtain ⟨k0, k1, k2, k3, _⟩ := cells2 t3
  have HT := hide (And.intro s3 (And.intro s6 r1'))
  clear s3 s6 r1' t3 t6 r1 u1 T
  go_wp2_with fail
  generalize (w1.setCell ⟨w.heap.size, 0, none⟩ (.bool b1)).setCell ⟨w.heap.size, 1, none⟩ (.slice ao1 m1 cap1) = W1 at *
  refine (r2int_rd 1 W1 (by decide) (by decide)).mono ?_
  rintro e w2 ⟨v2, rfl, n2, u2⟩
  have r2 := n2.rc
  clear n2 k0 k1 k2 k3
  obtain ⟨b2, ao2, m2, cap2, rfl⟩ := r2.form
  have A2 := up_alloc w2 (.cells #[.bool b2, .slice ao2 m2 cap2] 26)
  have V2 := hide (u2.tr A2)
  obtain ⟨k0, k1, _⟩ := cells2 (V2.out.blk HT.out.1)
  have HP := hide (heap_alloc_new w2 (.cells #[.bool b2, .slice ao2 m2 cap2] 26))
  have HR2 := hide (r2.up A2)
  have HG : Hid (w.heap.size + 1 < w2.heap.size) := hide (Nat.lt_of_lt_of_le (Array.getElem?_eq_some_iff.1 HT.out.2.1).1 u2.size)
  clear r2 A2 u2
  go_wp2_with fail
  refine (bits_rd (HT.out.2.2.up V2.out) (by omega)).mono ?_
  rintro e w3 ⟨rfl, u3⟩
  rw [← HL.out]
  have HU3 := hide u3
  have t6 := u3.blk (V2.out.blk HT.out.2.1)
  obtain ⟨k2, k3, k4, k5, _⟩ := cells2 t6
  have R0 : PwR w w3 w2.heap.size b1 ao1 m1 cap1 Z M 0 limit b2 ao2 m2 cap2 := ⟨u3.blk HP.out, u3.blk (V2.out.blk HT.out.1), t6, U1.out.tr (V2.out.tr u3), (by rw [Int.pow_zero]; exact (HR2.out.up u3).wideC (by omega)), HT.out.2.2.up (V2.out.tr u3), .inl rfl⟩
  have HR0 := hide R0
  clear R0 u3 k0 k1 k2 k3 k4 k5 t6
  go_wp2_with fail
  go_loopw [10] (fun a10 wr => ∃ j bp aop np capp, j ≤ n ∧ a10 = .int .i64 ((j : Nat) : Int) ∧ PwR w wr w2.heap.size b1 ao1 m1 cap1 Z M j limit bp aop np capp) (fun a10 _ => n - (intOf a10).toNat)
  case atStart => exact ⟨0, b2, ao2, m2, cap2, Nat.zero_le _, rfl, HR0.out⟩
  case round =>
    obtain ⟨j, bp, aop, np, capp, hj, rfl, hR⟩ := hrel
    obtain ⟨p0, p1, p2, p3, _⟩ := cells2 hR.bp
    obtain ⟨q0, q1, _⟩ := cells2 hR.b3
    have HR := hide hR
    clear hR
    by_cases hjn : j < n
    · have hjnI : (j : Int) < (n : Int) := by omega
      go_wp2_with fail
      clear p0 p1 p2 p3 q0 q1
      refine (r2mul2_rd (HR.out.pr.rd (Nat.le_refl _)) (HR.out.ar.rd (Nat.le_refl _)) (by omega)).mono ?_
      rintro e w4 ⟨v4, rfl, r4, u4⟩
      rw [← Int.pow_succ] at r4
      obtain ⟨b4, ao4, m4, cap4, rfl⟩ := r4.form
      have t8 := u4.blk HR.out.bp
      obtain ⟨T8, s8⟩ := sto_two t8 (.bool b4) (.slice ao4 m4 cap4)
      obtain ⟨c0, c1, c2, c3, _⟩ := cells2 t8
      obtain ⟨d0, d1, _⟩ := cells2 s8
      have H8 := hide (And.intro t8 (And.intro T8 (And.intro s8 (And.intro (r4.turnP T8 t8) u4))))
      clear t8 T8 s8 r4 u4
      go_wp2_with fail
      generalize (w4.setCell ⟨w2.heap.size, 0, none⟩ (.bool b4)).setCell ⟨w2.heap.size, 1, none⟩ (.slice ao4 m4 cap4) = W8 at *
      refine (bits_rd H8.out.2.2.2.1 (by omega)).mono ?_
      rintro e w5 ⟨rfl, u5⟩
      rw [Int.natAbs_pow]
      have HU5 := hide u5
      obtain ⟨B8, hB8⟩ : ∃ B, B = bitLen (Z.natAbs ^ (j + 1)) := ⟨_, rfl⟩
      rw [← hB8]
      have HB8 := hide hB8
      clear hB8 u5 c0 c1 c2 c3 d0 d1
      by_cases hf : B8 ≤ limit
      · have hfI : ¬ (limit : Int) < (B8 : Int) := by omega
        go_wp2_with fail
        have hg := HG.out
        have N5 : PwR w w5 w2.heap.size b1 ao1 m1 cap1 Z M (j + 1) limit b4 ao4 m4 cap4 := by
          obtain ⟨t8, T8, s8, r8, u4⟩ := H8.out
          exact ⟨HU5.out.blk s8, HU5.out.blk ((T8.block _ (by omega)).trans (u4.blk HR.out.b3)), HU5.out.blk ((T8.block _ (by omega)).trans (u4.blk HR.out.b6)), (T8.up (HR.out.U.tr u4) (by omega)).tr HU5.out, (r8.up HU5.out).few (by rw [Int.natAbs_pow, ← HB8.out]; omega), ((HR.out.ar.up u4).turnP T8 t8).up HU5.out, .inr (by rw [← HB8.out]; exact hf)⟩
        go_roundw
        case rel => exact ⟨j + 1, b4, ao4, m4, cap4, by omega, by go_num, N5⟩
        case measure => simp [intOf]; omega
      · have hfI : (limit : Int) < (B8 : Int) := by omega
        have hg := HG.out
        have t6 := HU5.out.blk ((H8.out.2.1.block _ (by omega)).trans (H8.out.2.2.2.2.blk HR.out.b6))
        obtain ⟨k2, k3, k4, k5, _⟩ := cells2 t6
        go_wp2_with fail
        obtain ⟨T6, s6⟩ := sto_two t6 (.bool false) (.slice none 0 0)
        obtain ⟨y0, y1, _, _, _⟩ := cells2 s6
        refine bodyPost_ret (by simp [results, Tryd.results41, go_sem, y0, y1]; rfl) rfl ?_
        refine pow_no rfl ?_ (T6.up ((H8.out.2.1.up (HR.out.U.tr H8.out.2.2.2.2) (by omega)).tr HU5.out) (by omega))
        have hp : 0 < Z.natAbs := by
          rcases Nat.eq_zero_or_pos Z.natAbs with e | e
          · have := HL.out
            rw [e, bitLen_zero] at this
            omega
          · exact e
        have := bitLen_mono (Nat.pow_le_pow_right hp (show j + 1 ≤ n by omega))
        have := HB8.out
        omega
    · have hjnI : ¬ (j : Int) < (n : Int) := by omega
      obtain rfl : j = n := by omega
      by_cases hf : bitLen (Z.natAbs ^ j) ≤ limit
      · go_wp2_with fail
        refine (fits_rdy HR.out.pr (by decide) (by rw [Int.natAbs_pow]; exact hf)).mono ?_
        rintro e w4 ⟨rfl, u4⟩
        have t6 := u4.blk HR.out.b6
        obtain ⟨k2, k3, k4, k5, _⟩ := cells2 t6
        have HU4 := hide u4
        clear u4
        go_wp2_with fail
        obtain ⟨T6, s6⟩ := sto_two t6 (.bool bp) (.slice aop np capp)
        obtain ⟨y0, y1, _, _, _⟩ := cells2 s6
        refine bodyPost_ret (by simp [results, Tryd.results41, go_sem, y0, y1]; rfl) rfl ?_
        refine ⟨bp, aop, np, capp, by rw [decide_eq_true hf], fun _ => ?_, fun h => absurd h (by omega), T6.up (HR.out.U.tr HU4.out) (by omega)⟩
        exact ((HR.out.pr.up HU4.out).turnP T6 t6).wideC (by decide)
      · go_wp2_with fail
        refine (fits_rdn HR.out.pr (by decide) (by rw [Int.natAbs_pow]; omega)).mono ?_
        rintro e w4 ⟨rfl, u4⟩
        have t6 := u4.blk HR.out.b6
        obtain ⟨k2, k3, k4, k5, _⟩ := cells2 t6
        have HU4 := hide u4
        clear u4
        go_wp2_with fail
        obtain ⟨T6, s6⟩ := sto_two t6 (.bool false) (.slice none 0 0)
        obtain ⟨y0, y1, _, _, _⟩ := cells2 s6
        refine bodyPost_ret (by simp [results, Tryd.results41, go_sem, y0, y1]; rfl) rfl ?_
        exact pow_no rfl hf (T6.up (HR.out.U.tr HU4.out) (by omega))

theorem RdC.sgn {Z : Int} {M : Nat} {w : World} {b : Bool} {ao : Option Addr} {n cap : Nat} (h : RdC Z M w (.agg #[.bool b, .slice ao n cap])) : Z = sgn b Z.natAbs := by
  obtain ⟨b', n', f', ⟨v', e', hs'⟩, hc', hl', hX'⟩ := h
  cases e'
  rw [← hX', sgn_natAbs]
theorem bitLen_le1 {x : Nat} (h : bitLen x ≤ 1) : x ≤ 1 := by
  rcases Nat.eq_zero_or_pos x with e | e
  · omega
  · have h1 := (bitLen_top e).2
    have : 2 ^ bitLen x ≤ 2 ^ 1 := Nat.pow_le_pow_right (by decide) h
    omega
theorem bitLen_eq0 {x : Nat} (h : bitLen x = 0) : x = 0 := by
  rcases Nat.eq_zero_or_pos x with e | e
  · exact e
  · have h1 := (bitLen_top e).2
    rw [h] at h1
    omega
theorem pow_one' {Z : Int} {M n : Nat} {w : World} {b : Bool} {ao : Option Addr} {m cap : Nat} (h : RdC Z M w (.agg #[.bool b, .slice ao m cap])) (h1 : bitLen Z.natAbs ≤ 1) (h2 : ¬ (bitLen Z.natAbs = 0 ∧ 0 < n)) : Z ^ n = sgn (b && decide (n % 2 = 1)) 1 := by
  have e : Z.natAbs ^ n = 1 := by
    have h3 := bitLen_le1 h1
    rcases Nat.eq_zero_or_pos n with e | e
    · rw [e, Nat.pow_zero]
    · have h4 : Z.natAbs ≠ 0 := fun e0 => h2 ⟨by rw [e0, bitLen_zero], e⟩
      rw [show Z.natAbs = 1 by omega, Nat.one_pow]
  have q := sgn_pow b Z.natAbs n
  rw [e, ← h.sgn] at q
  exact q
theorem pow_nought {Z : Int} {n : Nat} (h1 : bitLen Z.natAbs = 0) (h2 : 0 < n) : Z ^ n = 0 := by
  have h3 := bitLen_eq0 h1
  rw [Int.natAbs_eq_zero.1 h3, Int.zero_pow (by omega)]
theorem RdD.flip {Z : Int} {M g : Nat} {w w' : World} {b : Bool} {ao : Option Addr} {n cap : Nat} {E : TypeId} (h : RdC 1 M w (.agg #[.bool b, .slice ao n cap])) (hg : w.heap[g]? = some (.cells #[.bool b, .slice ao n cap] E (0, 0))) (t : Turn g w w') (s : Bool) (hZ : Z = sgn s 1) : RdD Z M w' (.agg #[.bool s, .slice ao n cap]) := by
  have h9 := h.sgn
  obtain ⟨b', n', f', ⟨v', e', hs'⟩, hc', hl', hX'⟩ := h
  cases e'
  refine ⟨s, n', f', ⟨_, rfl, sl_otherN hg hs' t.block⟩, hc'.1.1, hl', ?_⟩
  have : num 4294967296 f' n' = 1 := by
    have := congrArg Int.natAbs hX'
    rw [sgn_natAbs] at this
    simpa using this
  rw [this, hZ]
theorem RdD.nought (w : World) (s : Bool) (M : Nat) : RdD 0 M w (.agg #[.bool s, .slice none 0 0]) :=
  ⟨s, 0, fun _ => 0, ⟨_, rfl, ⟨none, 0, rfl, Nat.le_refl _, by decide, fun _ => rfl, .inl rfl⟩⟩, fun i hi => absurd hi (by omega), by omega, by cases s <;> simp [sgn, num]⟩

set_option maxRecDepth 20000 in
set_option maxHeartbeats 1000000 in
theorem r2power_small (a : Value) (Z : Int) (M n limit : Nat) (w : World) (ha : RdD Z M w a) (hM : M ≤ 2000000) (hn : n < 9223372036854775808) (hl : limit ≤ 1000000) (hZ : bitLen Z.natAbs ≤ 1) :
    Calls Tryd.prog 41 #[a, .int .i64 (n : Int), .int .i64 (limit : Int)] w fun e w' => PowEnd Z n limit w e w' := by
  obtain ⟨b, m, f, ⟨v, rfl, hv⟩, hd, hM2, hz⟩ := ha
  obtain ⟨ao, cap, rfl, -⟩ := id hv
  have hn0 : ¬ (n : Int) < 0 := by omega
  have hl0 : ¬ (limit : Int) < 0 := by omega
  have hodd : ((n : Int) % 2 == 1) = decide (n % 2 = 1) := by
    rcases Nat.mod_two_eq_zero_or_one n with e | e
    · rw [show (n : Int) % 2 = 0 by omega, decide_eq_false (by omega)]; rfl
    · rw [show (n : Int) % 2 = 1 by omega, decide_eq_true e]; rfl
  have HRd : Hid (∀ W, Up w W → RdD Z M W (.agg #[.bool b, .slice ao m cap])) := hide (fun W u => ⟨b, m, f, ⟨_, rfl, hv.up u⟩, hd, hM2, hz⟩)
  clear hv hd hz hM2
  obtain ⟨L, hL⟩ : ∃ L, L = bitLen Z.natAbs := ⟨_, rfl⟩
  rw [← hL] at hZ
  have hL1 : (L : Int) ≤ 1 := by omega
  have HL := hide hL
  clear hL
  have K2 := hide (two_blocks w (.cells #[.bool b, .slice ao m cap] 26) (.cells #[.bool false, .slice none 0 0] 26))
  have HU := hide ((up_alloc w (.cells #[.bool b, .slice ao m cap] 26)).tr (up_alloc _ (.cells #[.bool false, .slice none 0 0] 26)))
  go_enter Tryd.func41, Tryd.ntmps41
  go_wp2_with fail
  refine (r2canon_rd (HRd.out _ HU.out) (by omega)).mono ?_
  rintro e w1 ⟨v1, rfl, n1, u1⟩
  have r1 := n1.rc
  clear n1
  obtain ⟨b1, ao1, m1, cap1, rfl⟩ := r1.form
  have t3 := u1.blk K2.out.1
  have t6 := u1.blk K2.out.2
  obtain ⟨T, s3⟩ := sto_two t3 (.bool b1) (.slice ao1 m1 cap1)
  have r1' := r1.turnP T t3
  have s6 := (T.block (w.heap.size + 1) (by omega)).trans t6
  have U1 := hide (T.up (HU.out.tr u1) (Nat.le_refl _))
  obtain ⟨k0, k1, k2, k3, _⟩ := cells2 t3
  have HT := hide (And.intro s3 (And.intro s6 r1'))
  clear s3 s6 r1' t3 t6 r1 u1 T
  go_wp2_with fail
  generalize (w1.setCell ⟨w.heap.size, 0, none⟩ (.bool b1)).setCell ⟨w.heap.size, 1, none⟩ (.slice ao1 m1 cap1) = W1 at *
  refine (r2int_rd 1 W1 (by decide) (by decide)).mono ?_
  rintro e w2 ⟨v2, rfl, n2, u2⟩
  have r2 := n2.rc
  clear n2 k0 k1 k2 k3
  obtain ⟨b2, ao2, m2, cap2, rfl⟩ := r2.form
  have A2 := up_alloc w2 (.cells #[.bool b2, .slice ao2 m2 cap2] 26)
  have V2 := hide (u2.tr A2)
  obtain ⟨k0, k1, _⟩ := cells2 (V2.out.blk HT.out.1)
  have HP := hide (heap_alloc_new w2 (.cells #[.bool b2, .slice ao2 m2 cap2] 26))
  have HR2 := hide (r2.up A2)
  have HG : Hid (w.heap.size + 1 < w2.heap.size) := hide (Nat.lt_of_lt_of_le (Array.getElem?_eq_some_iff.1 HT.out.2.1).1 u2.size)
  clear r2 A2 u2
  go_wp2_with fail
  refine (bits_rd (HT.out.2.2.up V2.out) (by omega)).mono ?_
  rintro e w3 ⟨rfl, u3⟩
  rw [← HL.out]
  have HU3 := hide u3
  have t6 := u3.blk (V2.out.blk HT.out.2.1)
  obtain ⟨k2, k3, k4, k5, _⟩ := cells2 t6
  have h3 := u3.blk (V2.out.blk HT.out.1)
  have h8 := u3.blk HP.out
  obtain ⟨l0, l1, _⟩ := cells2 h3
  obtain ⟨g0, g1, g2, g3, _⟩ := cells2 h8
  have H6 := hide t6
  have H8 := hide h8
  have H3 := hide h3
  clear u3 k0 k1 t6 h8 h3 k2 k3 k4 k5
  by_cases hz0 : L = 0 ∧ 0 < n
  · obtain ⟨hz1, hn1⟩ := hz0
    have hn1I : (0 : Int) < (n : Int) := by omega
    have hz1I : (L : Int) = 0 := by omega
    obtain ⟨T7, s7⟩ := sto_two H8.out (.bool false) (.slice none 0 0)
    obtain ⟨x0, x1, x2, x3, _⟩ := cells2 s7
    obtain ⟨l2, l3, _⟩ := cells2 ((T7.block w.heap.size (by have := HG.out; omega)).trans H3.out)
    have HT7 := hide T7
    clear T7 s7
    rcases b1 with _ | _
    · go_wp2_with fail
      have hg := HG.out
      have T8 := HT7.out.trans (turn_setCell _ w2.heap.size 0 (.bool false))
      refine (r2canon_rd (X := Z ^ n) (M := 2) (by rw [pow_nought (by rw [← HL.out]; exact hz1) hn1]; exact RdD.nought _ _ _) (by decide)).mono ?_
      rintro e w5 ⟨v5, rfl, n5, u5⟩
      have r5 := n5.rc
      obtain ⟨b5, ao5, m5, cap5, rfl⟩ := r5.form
      have t6 := u5.blk ((T8.block (w.heap.size + 1) (by omega)).trans H6.out)
      have U5 := hide ((T8.up (U1.out.tr (V2.out.tr HU3.out)) (by omega)).tr u5)
      have HR5 := hide r5
      have H65 := hide t6
      clear r5 n5 u5 t6 T8
      by_cases hf : bitLen (Z.natAbs ^ n) ≤ limit
      · go_wp2_with fail
        refine (fits_rdy HR5.out (by decide) (by rw [Int.natAbs_pow]; exact hf)).mono ?_
        rintro e w6 ⟨rfl, u6⟩
        have t6 := u6.blk H65.out
        obtain ⟨k2, k3, k4, k5, _⟩ := cells2 t6
        have HU6 := hide u6
        clear u6
        go_wp2_with fail
        obtain ⟨T6, s6⟩ := sto_two t6 (.bool b5) (.slice ao5 m5 cap5)
        obtain ⟨y0, y1, _, _, _⟩ := cells2 s6
        refine bodyPost_ret (by simp [results, Tryd.results41, go_sem, y0, y1]; rfl) rfl ?_
        refine ⟨b5, ao5, m5, cap5, by rw [decide_eq_true hf], fun _ => ?_, fun h => absurd h (by omega), T6.up (U5.out.tr HU6.out) (by omega)⟩
        exact ((HR5.out.up HU6.out).turnP T6 t6).wideC (by decide)
      · go_wp2_with fail
        refine (fits_rdn HR5.out (by decide) (by rw [Int.natAbs_pow]; omega)).mono ?_
        rintro e w6 ⟨rfl, u6⟩
        have t6 := u6.blk H65.out
        obtain ⟨k2, k3, k4, k5, _⟩ := cells2 t6
        have HU6 := hide u6
        clear u6
        go_wp2_with fail
        obtain ⟨T6, s6⟩ := sto_two t6 (.bool false) (.slice none 0 0)
        obtain ⟨y0, y1, _, _, _⟩ := cells2 s6
        refine bodyPost_ret (by simp [results, Tryd.results41, go_sem, y0, y1]; rfl) rfl ?_
        exact pow_no rfl hf (T6.up (U5.out.tr HU6.out) (by omega))
    · go_wp2_with fail
      have hg := HG.out
      have T8 := HT7.out.trans (turn_setCell _ w2.heap.size 0 (.bool (decide (n % 2 = 1))))
      refine (r2canon_rd (X := Z ^ n) (M := 2) (by rw [pow_nought (by rw [← HL.out]; exact hz1) hn1]; exact RdD.nought _ _ _) (by decide)).mono ?_
      rintro e w5 ⟨v5, rfl, n5, u5⟩
      have r5 := n5.rc
      obtain ⟨b5, ao5, m5, cap5, rfl⟩ := r5.form
      have t6 := u5.blk ((T8.block (w.heap.size + 1) (by omega)).trans H6.out)
      have U5 := hide ((T8.up (U1.out.tr (V2.out.tr HU3.out)) (by omega)).tr u5)
      have HR5 := hide r5
      have H65 := hide t6
      clear r5 n5 u5 t6 T8
      by_cases hf : bitLen (Z.natAbs ^ n) ≤ limit
      · go_wp2_with fail
        refine (fits_rdy HR5.out (by decide) (by rw [Int.natAbs_pow]; exact hf)).mono ?_
        rintro e w6 ⟨rfl, u6⟩
        have t6 := u6.blk H65.out
        obtain ⟨k2, k3, k4, k5, _⟩ := cells2 t6
        have HU6 := hide u6
        clear u6
        go_wp2_with fail
        obtain ⟨T6, s6⟩ := sto_two t6 (.bool b5) (.slice ao5 m5 cap5)
        obtain ⟨y0, y1, _, _, _⟩ := cells2 s6
        refine bodyPost_ret (by simp [results, Tryd.results41, go_sem, y0, y1]; rfl) rfl ?_
        refine ⟨b5, ao5, m5, cap5, by rw [decide_eq_true hf], fun _ => ?_, fun h => absurd h (by omega), T6.up (U5.out.tr HU6.out) (by omega)⟩
        exact ((HR5.out.up HU6.out).turnP T6 t6).wideC (by decide)
      · go_wp2_with fail
        refine (fits_rdn HR5.out (by decide) (by rw [Int.natAbs_pow]; omega)).mono ?_
        rintro e w6 ⟨rfl, u6⟩
        have t6 := u6.blk H65.out
        obtain ⟨k2, k3, k4, k5, _⟩ := cells2 t6
        have HU6 := hide u6
        clear u6
        go_wp2_with fail
        obtain ⟨T6, s6⟩ := sto_two t6 (.bool false) (.slice none 0 0)
        obtain ⟨y0, y1, _, _, _⟩ := cells2 s6
        refine bodyPost_ret (by simp [results, Tryd.results41, go_sem, y0, y1]; rfl) rfl ?_
        exact pow_no rfl hf (T6.up (U5.out.tr HU6.out) (by omega))
  · have hz0I : ¬ ((L : Int) = 0 ∧ (0 : Int) < (n : Int)) := by omega
    rcases b1 with _ | _
    · go_wp2_with fail
      all_goals
        have hg := HG.out
        have T8 := turn_setCell w3 w2.heap.size 0 (.bool false)
        refine (r2canon_rd (X := Z ^ n) (M := 2) (RdD.flip (HR2.out.up HU3.out) H8.out T8 _ (by rw [pow_one' HT.out.2.2 (by rw [← HL.out]; omega) (by rw [← HL.out]; omega)]; simp)) (by decide)).mono ?_
        rintro e w5 ⟨v5, rfl, n5, u5⟩
        have r5 := n5.rc
        obtain ⟨b5, ao5, m5, cap5, rfl⟩ := r5.form
        have t6 := u5.blk ((T8.block (w.heap.size + 1) (by omega)).trans H6.out)
        have U5 := hide ((T8.up (U1.out.tr (V2.out.tr HU3.out)) (by omega)).tr u5)
        have HR5 := hide r5
        have H65 := hide t6
        clear r5 n5 u5 t6 T8
        by_cases hf : bitLen (Z.natAbs ^ n) ≤ limit
        · go_wp2_with fail
          refine (fits_rdy HR5.out (by decide) (by rw [Int.natAbs_pow]; exact hf)).mono ?_
          rintro e w6 ⟨rfl, u6⟩
          have t6 := u6.blk H65.out
          obtain ⟨k2, k3, k4, k5, _⟩ := cells2 t6
          have HU6 := hide u6
          clear u6
          go_wp2_with fail
          obtain ⟨T6, s6⟩ := sto_two t6 (.bool b5) (.slice ao5 m5 cap5)
          obtain ⟨y0, y1, _, _, _⟩ := cells2 s6
          refine bodyPost_ret (by simp [results, Tryd.results41, go_sem, y0, y1]; rfl) rfl ?_
          refine ⟨b5, ao5, m5, cap5, by rw [decide_eq_true hf], fun _ => ?_, fun h => absurd h (by omega), T6.up (U5.out.tr HU6.out) (by omega)⟩
          exact ((HR5.out.up HU6.out).turnP T6 t6).wideC (by decide)
        · go_wp2_with fail
          refine (fits_rdn HR5.out (by decide) (by rw [Int.natAbs_pow]; omega)).mono ?_
          rintro e w6 ⟨rfl, u6⟩
          have t6 := u6.blk H65.out
          obtain ⟨k2, k3, k4, k5, _⟩ := cells2 t6
          have HU6 := hide u6
          clear u6
          go_wp2_with fail
          obtain ⟨T6, s6⟩ := sto_two t6 (.bool false) (.slice none 0 0)
          obtain ⟨y0, y1, _, _, _⟩ := cells2 s6
          refine bodyPost_ret (by simp [results, Tryd.results41, go_sem, y0, y1]; rfl) rfl ?_
          exact pow_no rfl hf (T6.up (U5.out.tr HU6.out) (by omega))
    · go_wp2_with fail
      all_goals
        have hg := HG.out
        have T8 := turn_setCell w3 w2.heap.size 0 (.bool (decide (n % 2 = 1)))
        refine (r2canon_rd (X := Z ^ n) (M := 2) (RdD.flip (HR2.out.up HU3.out) H8.out T8 _ (by rw [pow_one' HT.out.2.2 (by rw [← HL.out]; omega) (by rw [← HL.out]; omega)]; simp)) (by decide)).mono ?_
        rintro e w5 ⟨v5, rfl, n5, u5⟩
        have r5 := n5.rc
        obtain ⟨b5, ao5, m5, cap5, rfl⟩ := r5.form
        have t6 := u5.blk ((T8.block (w.heap.size + 1) (by omega)).trans H6.out)
        have U5 := hide ((T8.up (U1.out.tr (V2.out.tr HU3.out)) (by omega)).tr u5)
        have HR5 := hide r5
        have H65 := hide t6
        clear r5 n5 u5 t6 T8
        by_cases hf : bitLen (Z.natAbs ^ n) ≤ limit
        · go_wp2_with fail
          refine (fits_rdy HR5.out (by decide) (by rw [Int.natAbs_pow]; exact hf)).mono ?_
          rintro e w6 ⟨rfl, u6⟩
          have t6 := u6.blk H65.out
          obtain ⟨k2, k3, k4, k5, _⟩ := cells2 t6
          have HU6 := hide u6
          clear u6
          go_wp2_with fail
          obtain ⟨T6, s6⟩ := sto_two t6 (.bool b5) (.slice ao5 m5 cap5)
          obtain ⟨y0, y1, _, _, _⟩ := cells2 s6
          refine bodyPost_ret (by simp [results, Tryd.results41, go_sem, y0, y1]; rfl) rfl ?_
          refine ⟨b5, ao5, m5, cap5, by rw [decide_eq_true hf], fun _ => ?_, fun h => absurd h (by omega), T6.up (U5.out.tr HU6.out) (by omega)⟩
          exact ((HR5.out.up HU6.out).turnP T6 t6).wideC (by decide)
        · go_wp2_with fail
          refine (fits_rdn HR5.out (by decide) (by rw [Int.natAbs_pow]; omega)).mono ?_
          rintro e w6 ⟨rfl, u6⟩
          have t6 := u6.blk H65.out
          obtain ⟨k2, k3, k4, k5, _⟩ := cells2 t6
          have HU6 := hide u6
          clear u6
          go_wp2_with fail
          obtain ⟨T6, s6⟩ := sto_two t6 (.bool false) (.slice none 0 0)
          obtain ⟨y0, y1, _, _, _⟩ := cells2 s6
          refine bodyPost_ret (by simp [results, Tryd.results41, go_sem, y0, y1]; rfl) rfl ?_
          exact pow_no rfl hf (T6.up (U5.out.tr HU6.out) (by omega))

/-- An answer: the number Y, and whether it fits. -/
def PE (Y : Int) (ok : Bool) (w : World) (e : Ending) (w' : World) : Prop := ∃ b ao k cap, e = .returned (.tuple #[.agg #[.bool b, .slice ao k cap], .bool ok]) ∧ RdC Y 1000000000 w' (.agg #[.bool b, .slice ao k cap]) ∧ Up w w'
theorem RdC.nought (w : World) (M : Nat) : RdC 0 M w (.agg #[.bool false, .slice none 0 0]) :=
  ⟨false, 0, fun _ => 0, ⟨_, rfl, ⟨none, 0, rfl, Nat.le_refl _, by decide, fun _ => rfl, .inl rfl⟩⟩, ⟨⟨fun i hi => absurd hi (by omega), .inl rfl⟩, by simp⟩, by omega, rfl⟩
theorem PE.no {w w' : World} {e : Ending} (h : e = .returned (.tuple #[.agg #[.bool false, .slice none 0 0], .bool false]) ∧ Up w w') : PE 0 false w e w' :=
  ⟨false, none, 0, 0, h.1, RdC.nought _ _, h.2⟩
theorem PowEnd.yes {Z : Int} {n limit : Nat} {w w' : World} {e : Ending} (h : PowEnd Z n limit w e w') (hf : bitLen (Z.natAbs ^ n) ≤ limit) : PE (Z ^ n) true w e w' := by
  obtain ⟨b, ao, k, cap, h1, h2, _, h4⟩ := h
  rw [decide_eq_true hf] at h1
  exact ⟨b, ao, k, cap, h1, h2 hf, h4⟩
theorem PowEnd.not {Z : Int} {n limit : Nat} {w w' : World} {e : Ending} (h : PowEnd Z n limit w e w') (hf : ¬ bitLen (Z.natAbs ^ n) ≤ limit) : PE 0 false w e w' := by
  obtain ⟨b, ao, k, cap, h1, _, h3, h4⟩ := h
  rw [decide_eq_false hf] at h1
  obtain ⟨rfl, rfl, rfl, rfl⟩ := h3 (by omega)
  exact PE.no ⟨h1, h4⟩
theorem two_pow_lt_bit {x n : Nat} (hx : 2 ≤ bitLen x) : n < bitLen (x ^ n) := by
  have h2 : 2 ≤ x := by
    rcases Nat.lt_or_ge x 2 with h | h
    · have := bitLen_mono (show x ≤ 1 by omega)
      have e : bitLen 1 = 1 := by decide
      omega
    · exact h
  have h3 : 2 ^ n ≤ x ^ n := Nat.pow_le_pow_left h2 n
  have h4 : 0 < x ^ n := Nat.pow_pos (by omega)
  have h5 := (bitLen_top h4).2
  exact (Nat.pow_lt_pow_iff_right (by decide : 1 < 2)).1 (Nat.lt_of_le_of_lt h3 h5)
theorem both (Z n k : Int) (hn : n < 9223372036854775808) (hk : k ≤ 3000) : ∃ Y ok, (∀ a M w, RdD Z M w a → M ≤ 2000000 → Calls Tryd.prog 40 #[a, .int .i64 n, .int .i64 k] w (PE Y ok w)) ∧ (∀ a M w, RdD Z M w a → M ≤ 2000000 → Calls Tryd.prog 41 #[a, .int .i64 n, .int .i64 k] w (PE Y ok w)) := by
  by_cases h : n < 0 ∨ k < 0
  · refine ⟨0, false, fun a M w ha hM => ?_, fun a M w ha hM => ?_⟩
    · obtain ⟨b, m, f, ⟨v, rfl, _⟩, _⟩ := ha
      exact (power_neg b v n k w h).mono fun e w' h => PE.no h
    · exact (r2power_neg a Z M n k w ha hM h).mono fun e w' h => PE.no h
  · obtain ⟨N, rfl⟩ : ∃ N : Nat, n = (N : Int) := ⟨n.toNat, by omega⟩
    obtain ⟨K, rfl⟩ : ∃ K : Nat, k = (K : Int) := ⟨k.toNat, by omega⟩
    have href : ∀ a M w, RdD Z M w a → M ≤ 2000000 → Calls Tryd.prog 41 #[a, .int .i64 (N : Int), .int .i64 (K : Int)] w (PowEnd Z N K w) := by
      intro a M w ha hM
      by_cases h1 : bitLen Z.natAbs ≤ 1
      · exact r2power_small a Z M N K w ha hM (by omega) (by omega) h1
      · by_cases h2 : K < N
        · refine (r2power_many a Z M N K w ha hM (by omega) (by omega) (by omega) h2).mono fun e w' h => ?_
          have := two_pow_lt_bit (x := Z.natAbs) (n := N) (by omega)
          rw [h.1]
          exact pow_no rfl (by omega) h.2
        · exact r2power_loop a Z M N K w ha hM (by omega) (by omega) (by omega) (by omega)
    by_cases hf : bitLen (Z.natAbs ^ N) ≤ K
    · exact ⟨Z ^ N, true, fun a M w ha hM => (power_any a Z M N K w ha hM (by omega) (by omega)).mono fun e w' h => PowEnd.yes h hf, fun a M w ha hM => (href a M w ha hM).mono fun e w' h => PowEnd.yes h hf⟩
    · exact ⟨0, false, fun a M w ha hM => (power_any a Z M N K w ha hM (by omega) (by omega)).mono fun e w' h => PowEnd.not h hf, fun a M w ha hM => (href a M w ha hM).mono fun e w' h => PowEnd.not h hf⟩

set_option maxRecDepth 20000 in
set_option maxHeartbeats 1000000 in
theorem numPowers_any (x1 x2 : Int) (a : Value) (b : Bool) (m : Nat) (f : Nat → Nat) (w : World) (ha : Nm w a b m f) (hd : ∀ i, i < m → f i < 4294967296) (hm : m ≤ 1048576) (y1 : (Lit.int .i64 x1).wf = true) (_y2 : (Lit.int .i64 x2).wf = true) (hT : Tab w) :
    Calls Tryd.prog 8 #[a, .int .i64 x1, .int .i64 x2] w fun e w' => e = .returned (.bool true) ∧ Below w.heap.size w w' := by
  obtain ⟨v, rfl, hv⟩ := ha
  obtain ⟨ao, cap, rfl, -⟩ := id hv
  have z1 : -9223372036854775808 ≤ x1 ∧ x1 ≤ 9223372036854775807 := by simpa [Lit.wf, IntKind.min, IntKind.max, IntKind.signed, IntKind.bits] using y1
  obtain ⟨Z, hZ⟩ : ∃ Z, Z = sgn b (num 4294967296 f m) := ⟨_, rfl⟩
  have HRa : Hid (∀ W, Up w W → RdD Z 1048576 W (.agg #[.bool b, .slice ao m cap])) := hide (fun W u => ⟨b, m, f, ⟨_, rfl, hv.up u⟩, hd, hm, hZ.symm⟩)
  have HT := hide hT
  have HB := hide (heap_alloc_new w (.cells #[.bool b, .slice ao m cap] 26))
  clear hZ hv hd hT
  by_cases hb : 3000 < x2
  · obtain ⟨Y, ok, P, R⟩ := both Z x1 3000 (by omega) (by omega)
    have HP := hide P
    have HR := hide R
    clear P R
    go_enter Tryd.func8, Tryd.ntmps8
    go_wp2_with fail
    refine (c_rd (HRa.out _ (up_alloc _ _)) (by decide)).mono ?_
    rintro e w3 ⟨v3, rfl, n3, u3⟩
    have HN3 := hide (n3.rd (Nat.le_refl _))
    clear n3
    go_wp2_with fail
    refine (HP.out _ 1048576 _ (unhide HN3) (by decide)).mono ?_
    rintro e w4 ⟨b4, ao4, k4, cap4, rfl, r4, u4⟩
    have HR4 := hide r4
    clear r4
    have A4 := up_alloc w4 (.cells #[.bool b4, .slice ao4 k4 cap4] 26)
    have B4 := hide (heap_alloc_new w4 (.cells #[.bool b4, .slice ao4 k4 cap4] 26))
    have V4 := hide ((u3.tr u4).tr A4)
    obtain ⟨k0, k1, -⟩ := cells2 ((unhide V4).blk (unhide HB))
    go_wp2_with fail
    clear k0 k1
    refine (HR.out _ 1048576 _ (HRa.out _ ((up_alloc _ _).tr (unhide V4))) (by decide)).mono ?_
    rintro e w7 ⟨b7, ao7, k7, cap7, rfl, r7, u7⟩
    have HR7 := hide r7
    clear r7
    have A7 := up_alloc w7 (.cells #[.bool b7, .slice ao7 k7 cap7] 26)
    have V7 := hide (u7.tr A7)
    obtain ⟨c2, c3, -⟩ := cells2 ((unhide V7).blk (unhide B4))
    have hok : (ok == ok) = true := by cases ok <;> rfl
    go_wp2_with fail
    refine (same_rd ((unhide HR4).up (A4.tr (unhide V7))) ((unhide HR7).up A7) rfl).mono ?_
    rintro e w8 ⟨v8, rfl, rfl, u8⟩
    have V8 := hide u8
    clear u8 c2 c3
    go_wp2_with fail
    refine (awake_rd ((unhide HT).up ((up_alloc _ _).tr ((unhide V4).tr ((unhide V7).tr (unhide V8)))))).mono ?_
    rintro e w9 ⟨v9, rfl, rfl, u9⟩
    go_wp2_with fail
    go_ret
    exact ⟨rfl, (up_alloc _ _).tr ((unhide V4).tr ((unhide V7).tr ((unhide V8).tr u9)))⟩
  · obtain ⟨Y, ok, P, R⟩ := both Z x1 x2 (by omega) (by omega)
    have HP := hide P
    have HR := hide R
    clear P R
    go_enter Tryd.func8, Tryd.ntmps8
    go_wp2_with fail
    refine (c_rd (HRa.out _ (up_alloc _ _)) (by decide)).mono ?_
    rintro e w3 ⟨v3, rfl, n3, u3⟩
    have HN3 := hide (n3.rd (Nat.le_refl _))
    clear n3
    go_wp2_with fail
    refine (HP.out _ 1048576 _ (unhide HN3) (by decide)).mono ?_
    rintro e w4 ⟨b4, ao4, k4, cap4, rfl, r4, u4⟩
    have HR4 := hide r4
    clear r4
    have A4 := up_alloc w4 (.cells #[.bool b4, .slice ao4 k4 cap4] 26)
    have B4 := hide (heap_alloc_new w4 (.cells #[.bool b4, .slice ao4 k4 cap4] 26))
    have V4 := hide ((u3.tr u4).tr A4)
    obtain ⟨k0, k1, -⟩ := cells2 ((unhide V4).blk (unhide HB))
    go_wp2_with fail
    clear k0 k1
    refine (HR.out _ 1048576 _ (HRa.out _ ((up_alloc _ _).tr (unhide V4))) (by decide)).mono ?_
    rintro e w7 ⟨b7, ao7, k7, cap7, rfl, r7, u7⟩
    have HR7 := hide r7
    clear r7
    have A7 := up_alloc w7 (.cells #[.bool b7, .slice ao7 k7 cap7] 26)
    have V7 := hide (u7.tr A7)
    obtain ⟨c2, c3, -⟩ := cells2 ((unhide V7).blk (unhide B4))
    have hok : (ok == ok) = true := by cases ok <;> rfl
    go_wp2_with fail
    refine (same_rd ((unhide HR4).up (A4.tr (unhide V7))) ((unhide HR7).up A7) rfl).mono ?_
    rintro e w8 ⟨v8, rfl, rfl, u8⟩
    have V8 := hide u8
    clear u8 c2 c3
    go_wp2_with fail
    refine (awake_rd ((unhide HT).up ((up_alloc _ _).tr ((unhide V4).tr ((unhide V7).tr (unhide V8)))))).mono ?_
    rintro e w9 ⟨v9, rfl, rfl, u9⟩
    go_wp2_with fail
    go_ret
    exact ⟨rfl, (up_alloc _ _).tr ((unhide V4).tr ((unhide V7).tr ((unhide V8).tr u9)))⟩

end Go.Proofs.YtjbocfhmfidjjaaDoor
