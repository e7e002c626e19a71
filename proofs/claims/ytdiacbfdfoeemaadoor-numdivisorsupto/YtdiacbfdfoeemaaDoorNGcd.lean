/-
  What is proved here: num.commonDivisor and num.Gcd: the greatest common divisor of any numbers.
-/
import Derived.Test.YtdiacbfdfoeemaaDoorNNeg
import Derived.Deep.LoopGhost
namespace Go.Proofs.YtdiacbfdfoeemaaDoor
open Go Go.RowKit

/-- How num.commonDivisor ends: what it answers may be one of its arguments. -/
def CdEnd (X : Nat) (M : Nat) (w : World) (e : Ending) (w' : World) : Prop := ∃ v n f, e = .returned v ∧ Sl .u32 w' v n f ∧ Can 4294967296 f n ∧ n ≤ M ∧ num 4294967296 f n = X ∧ Up w w'

set_option maxRecDepth 4000 in
set_option maxHeartbeats 1000000 in
theorem common_any (v u : Value) (n m M : Nat) (f h : Nat → Nat) (w : World) (hv : Sl .u32 w v n f) (hu : Sl .u32 w u m h) (hf : Can 4294967296 f n) (hh : Can 4294967296 h m) (hn : n ≤ M) (hm : m ≤ M) (hM : 4 * (M + 1) ≤ 281474976710656) :
    Calls Tryd.prog 66 #[v, u] w fun e w' => CdEnd (Nat.gcd (num 4294967296 f n) (num 4294967296 h m)) M w e w' := by
  have HV := hide (And.intro hv (And.intro hu (And.intro hf hh)))
  clear hv hu hf hh
  go_enter Tryd.func66, Tryd.ntmps66
  go_wp2_with fail
  go_loopg [0, 1] (num 4294967296 h m) (fun k t0 t1 wr => ∃ (n1 m1 : Nat) (f1 h1 : Nat → Nat), Aside (Sl .u32 wr t0 n1 f1 ∧ Sl .u32 wr t1 m1 h1 ∧ Can 4294967296 f1 n1 ∧ Can 4294967296 h1 m1 ∧ n1 ≤ M ∧ m1 ≤ M ∧ Up w wr ∧ k = num 4294967296 h1 m1 ∧ Nat.gcd (num 4294967296 f1 n1) (num 4294967296 h1 m1) = Nat.gcd (num 4294967296 f n) (num 4294967296 h m)))
  case atStart => exact ⟨n, m, f, h, ⟨(unhide HV).1, (unhide HV).2.1, (unhide HV).2.2.1, (unhide HV).2.2.2, hn, hm, Up.refl _, rfl, rfl⟩⟩
  case round =>
    obtain ⟨n1, m1, f1, h1, A⟩ := hrel
    obtain ⟨ao0, cap0, rfl, -⟩ := id A.out.1
    obtain ⟨ao1, cap1, rfl, -⟩ := id A.out.2.1
    by_cases hm0 : m1 = 0
    · subst hm0
      go_wp2_with (go_at_call 65; refine (isZero_yes _ _ _).mono ?_; rintro e w3 ⟨rfl, rfl⟩)
      go_ret
      obtain ⟨a1, a2, a3, a4, a5, a6, a7, a8, a9⟩ := A.out
      refine ⟨_, n1, f1, rfl, a1, a3, a5, ?_, a7⟩
      rw [← a9]
      simp [num]
    · go_wp2_with (first
        | (go_at_call 65; refine (isZero_no _ _ _ _ hm0).mono ?_; rintro e w3 ⟨rfl, rfl⟩)
        | (go_at_call 85; refine (div_any _ _ n1 m1 f1 h1 _ A.out.1 A.out.2.1 A.out.2.2.1.1 A.out.2.2.2.1.1 (by have := A.out.2.2.2.2.1; omega) (num_pos A.out.2.2.2.1 hm0)).mono ?_; rintro e w4 HX; obtain ⟨nq, nr, fq, fr, vq, vr, rfl, oq, or, u1, cq, cr, lq, lr, sq, sr⟩ := unhide HX; replace u1 : Up _ w4 := u1; have B : Aside (Sl .u32 w4 vr nr fr ∧ Can 4294967296 fr nr ∧ nr ≤ m1 ∧ num 4294967296 fr nr = num 4294967296 f1 n1 % num 4294967296 h1 m1 ∧ Up _ w4) := ⟨or.sl, cr, lr, sr, u1⟩; obtain ⟨aoq, capq, rfl, -⟩ := id oq.sl; obtain ⟨aor, capr, rfl, -⟩ := id or.sl; clear HX oq or cq cr lq lr sq sr u1))
      go_roundg (num 4294967296 fr nr)
      case measure =>
        rw [B.out.2.2.2.1, A.out.2.2.2.2.2.2.2.1]
        exact Nat.mod_lt _ (num_pos A.out.2.2.2.1 hm0)
      case rel =>
        obtain ⟨a1, a2, a3, a4, a5, a6, a7, a8, a9⟩ := A.out
        obtain ⟨b1, b2, b3, b4, b5⟩ := B.out
        refine ⟨m1, nr, h1, fr, ⟨a2.up b5, b1, a4, b2, a6, by omega, a7.tr b5, rfl, ?_⟩⟩
        rw [b4, ← a9, Nat.gcd_comm (num 4294967296 f1 n1), Nat.gcd_rec (num 4294967296 h1 m1) (num 4294967296 f1 n1), Nat.gcd_comm]

/-- The greatest common divisor of k numbers. -/
def gcdN (g : Nat → Nat) : Nat → Nat
  | 0 => 0
  | k + 1 => Nat.gcd (gcdN g k) (g k)
theorem gcdN_congr {g h : Nat → Nat} {k : Nat} (e : ∀ i, i < k → g i = h i) : gcdN g k = gcdN h k := by
  induction k with
  | zero => rfl
  | succ k ih =>
    show Nat.gcd (gcdN g k) (g k) = Nat.gcd (gcdN h k) (h k)
    rw [ih (fun i hi => e i (by omega)), e k (by omega)]
theorem sgn_abs {b c : Bool} {x y : Nat} (h : sgn b x = sgn c y) : x = y := by
  cases b <;> cases c <;> simp [sgn] at h <;> omega

set_option maxRecDepth 4000 in
set_option maxHeartbeats 2000000 in
theorem gcdz_any (mo : Option Addr) (k capm M : Nat) (vs : Nat → Value) (bs : Nat → Bool) (ns : Nat → Nat) (fs : Nat → Nat → Nat) (w : World) (hm : RdN w mo k vs bs) (hl : Lsts w M k vs ns fs) (hM : 4 * (M + 1) ≤ 281474976710656) (hk : 32 * k ≤ 281474976710656) :
    Calls Tryd.prog 38 #[.slice mo k capm] w fun e w' => NumEnd (gcdN (fun i => num 4294967296 (fs i) (ns i)) k) M w e w' := by
  have hm' : RdN (w.alloc (.cells #[.bool false, .slice none 0 0] 26)) mo k vs bs := by
    rcases hm with h | ⟨b, off, rfl, hc⟩
    · exact .inl h
    · by_cases h0 : k = 0
      · exact .inl h0
      · have hb : b < w.heap.size := World.block_lt_of_cell? w _ (hc 0 (by omega)).1
        exact .inr ⟨b, off, rfl, fun i hi => ⟨(Below.cell (up_alloc w _) (p := ⟨b, off + i * 2, none⟩) hb).trans (hc i hi).1, (Below.cell (up_alloc w _) (p := ⟨b, off + i * 2 + 1, none⟩) hb).trans (hc i hi).2⟩⟩
  have HL := hide hl
  clear hl hm
  go_enter Tryd.func38, Tryd.ntmps38
  go_wp2_with fail
  refine (workAll_any mo k capm M vs bs ns fs _ hm' ((unhide HL).up (up_alloc w _)) (by omega)).mono ?_
  rintro e w1 ⟨mo1, cap1, vs1, bs1, ms1, rfl, hcap1, rw1, l1, u1, hs1⟩
  have HS1 := hide (And.intro (l1.up u1) hs1)
  have hz1 : w.heap.size < w1.heap.size := by have := Below.size u1; simp at this; omega
  clear hs1 hm' l1
  go_wp2_with fail
  go_loopw [3, 9] (fun t3 t9 wr => ∃ (j n : Nat) (f : Nat → Nat), j ≤ k ∧ t9 = .int .i64 j ∧ Up w1 wr ∧ (∃ ao c, t3 = .slice ao n c) ∧ Hid (Sl .u32 wr t3 n f ∧ Can 4294967296 f n ∧ n ≤ M ∧ num 4294967296 f n = gcdN (fun i => num 4294967296 (fs i) (ms1 i)) j)) (fun _ t9 _ => k - (intOf t9).toNat)
  case atStart => exact ⟨0, 0, fun _ => 0, Nat.zero_le _, rfl, Up.refl _, ⟨none, 0, rfl⟩, hide ⟨⟨none, 0, rfl, Nat.le_refl _, by omega, fun _ => rfl, .inl rfl⟩, ⟨fun i hi => by omega, .inl rfl⟩, Nat.zero_le _, rfl⟩⟩
  case round =>
    obtain ⟨j, n, f, hj, rfl, up, ⟨ao3, c3, rfl⟩, HH⟩ := hrel
    by_cases hjk : j < k
    · rcases rw1 with h | ⟨b, off, rfl, hc⟩
      · omega
      obtain ⟨sj, dj, nj⟩ := (unhide HS1).1 j hjk
      obtain ⟨aoj, capj, ej, -⟩ := id sj
      have hx0 := (hc j hjk).1
      have hx1 := (hc j hjk).2
      have hbl : b < w1.heap.size := World.block_lt_of_cell? w1 _ hx0
      rw [ej] at hx0 sj
      have hc0 : wr.cell? ⟨b, off + j * 2, none⟩ = some (.slice aoj (ms1 j) capj) := (Below.cell up (p := ⟨b, off + j * 2, none⟩) hbl).trans hx0
      have hc1 : wr.cell? ⟨b, off + j * 2 + 1, none⟩ = some (.bool (bs1 j)) := (Below.cell up (p := ⟨b, off + j * 2 + 1, none⟩) hbl).trans hx1
      have HSJ := hide (And.intro sj (And.intro ((unhide HS1).2 j hjk).1.1 nj))
      clear hc hx0 hx1 ej sj dj nj
      generalize hnj : ms1 j = nn at *
      generalize bs1 j = bj at *
      have HNJ := hide hnj
      clear hnj
      go_wp2_with fail
      refine (common_any _ _ n nn M f (fs j) _ ((unhide HH).1.up (up_alloc _ _)) (((unhide HSJ).1.up up).up (up_alloc _ _)) (unhide HH).2.1 (unhide HSJ).2.1 (unhide HH).2.2.1 (unhide HSJ).2.2 hM).mono ?_
      rintro e w2 HX
      obtain ⟨v2, n2, f2, rfl, s2, c2, l2, k2, u2⟩ := HX
      obtain ⟨ao2, cap2, rfl, -⟩ := id s2
      have HX2 := hide (And.intro s2 (And.intro c2 (And.intro l2 k2)))
      have U2 := hide ((up.tr (up_alloc _ _)).tr u2)
      clear s2 c2 l2 k2 u2 up
      go_wp2_with fail
      go_roundw
      case rel =>
        refine ⟨j + 1, n2, f2, by omega, by go_num, unhide U2, ⟨_, _, rfl⟩, hide ⟨(unhide HX2).1, (unhide HX2).2.1, (unhide HX2).2.2.1, ?_⟩⟩
        rw [(unhide HX2).2.2.2, (unhide HH).2.2.2]
        show _ = Nat.gcd (gcdN _ j) (num 4294967296 (fs j) (ms1 j))
        rw [unhide HNJ]
      case measure => simp [intOf]; omega
    · obtain rfl : j = k := by omega
      go_wp2_with fail
      obtain ⟨s3, c3', l3, k3⟩ := unhide HH
      obtain ⟨r1, r2, r3⟩ := s3.rd
      refine (copied_any _ n _ f _ r1 (by omega)).mono ?_
      rintro e w2 ⟨v2, rfl, o2, u2⟩
      obtain ⟨ao2, cap2, rfl, -⟩ := id o2.sl
      have HK := hide (And.intro c3' (And.intro l3 k3))
      clear s3 c3' l3 k3 r1 r2 r3
      go_wp2_with fail
      refine (answer_any _ false n f _ ⟨_, rfl, o2.sl⟩).mono ?_
      rintro e w3 ⟨a3, rfl, h3, u3⟩
      obtain rfl := h3 _ rfl
      obtain ⟨d0, d1, g0, g1, lt, e0, e1⟩ := res2 w.heap.size rfl (((u1.tr up).tr u2).tr u3)
      have hz : w.heap.size < wr.heap.size := by have := Below.size up; omega
      go_wp2_with fail
      refine bodyPost_ret (by simp [results, Tryd.results38, go_sem, e0, e1]; rfl) rfl ?_
      refine ⟨_, false, n, f, rfl, ⟨_, rfl, ((o2.up u3).set2 hz).mono (by omega)⟩, Up.set2 ((up_alloc w _).tr (((u1.tr up).tr u2).tr u3)) (Nat.le_refl _), ⟨(unhide HK).1, fun e => by cases e⟩, (unhide HK).2.1, ?_⟩
      simp only [sgn]
      rw [(unhide HK).2.2, gcdN_congr (fun i hi => sgn_abs ((unhide HS1).2 i hi).2.2)]
      rfl

end Go.Proofs.YtdiacbfdfoeemaaDoor
