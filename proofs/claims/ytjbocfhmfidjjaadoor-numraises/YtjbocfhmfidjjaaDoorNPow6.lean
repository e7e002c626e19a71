/-
  What is proved here: num.Power.
-/
import Derived.Test.YtjbocfhmfidjjaaDoorNPow5
namespace Go.Proofs.YtjbocfhmfidjjaaDoor
open Go Go.RowKit

theorem sgn_pow (b : Bool) (x n : Nat) : (sgn b x) ^ n = sgn (b && decide (n % 2 = 1)) (x ^ n) := by
  induction n with
  | zero => cases b <;> simp [sgn]
  | succ n ih =>
    rw [Int.pow_succ, ih]
    rcases Nat.mod_two_eq_zero_or_one n with e | e
    · have e2 : (n + 1) % 2 = 1 := by omega
      cases b
      · simp [sgn, Nat.pow_succ]
      · simp [sgn, e, e2, Nat.pow_succ, Int.mul_neg]
    · have e2 : (n + 1) % 2 = 0 := by omega
      cases b
      · simp [sgn, Nat.pow_succ]
      · simp [sgn, e, e2, Nat.pow_succ, Int.neg_mul_neg]

/-- What Power answers. -/
def PowEnd (Z : Int) (n limit : Nat) (w : World) (e : Ending) (w' : World) : Prop := ∃ b ao k cap, e = .returned (.tuple #[.agg #[.bool b, .slice ao k cap], .bool (decide (bitLen (Z.natAbs ^ n) ≤ limit))]) ∧ (bitLen (Z.natAbs ^ n) ≤ limit → RdC (Z ^ n) 1000000000 w' (.agg #[.bool b, .slice ao k cap])) ∧ (limit < bitLen (Z.natAbs ^ n) → b = false ∧ ao = none ∧ k = 0 ∧ cap = 0) ∧ Up w w'

theorem sgn_natAbs (b : Bool) (x : Nat) : (sgn b x).natAbs = x := by cases b <;> simp [sgn]
theorem can_most {f : Nat → Nat} {n L : Nat} (hc : Can 4294967296 f n) (h : bitLen (num 4294967296 f n) ≤ L) : n ≤ L := by
  rcases Nat.eq_zero_or_pos n with e0 | e0
  · omega
  · have ht : f (n - 1) ≠ 0 := by rcases hc.2 with e1 | e1; omega; exact e1
    have := bitLen_num hc.1 e0 ht
    have h2 : 0 < bitLen (f (n - 1)) := by unfold bitLen; rw [if_neg ht]; omega
    omega

/-- A list of limbs does not lie in a number's own block. -/
theorem sl_otherN {w1 wf : World} {g : Nat} {b0 : Bool} {a : Option Addr} {m c : Nat} {E : TypeId} {u : Value} {n : Nat} {f : Nat → Nat} (hb : w1.heap[g]? = some (.cells #[.bool b0, .slice a m c] E (0, 0))) (hs : Sl .u32 w1 u n f) (hf : ∀ k, k ≠ g → wf.heap[k]? = w1.heap[k]?) : Sl .u32 wf u n f := by
  obtain ⟨ao, cap, rfl, h1, h2, h0, h3⟩ := hs
  refine ⟨ao, cap, rfl, h1, h2, h0, ?_⟩
  rcases h3 with e | ⟨b, off, rfl, hc⟩
  · exact .inl e
  · refine .inr ⟨b, off, rfl, fun i hi => ?_⟩
    have hci := hc i hi
    by_cases e : b = g
    · exfalso
      subst e
      simp only [World.cell?, hb] at hci
      match ho : off + i with
      | 0 => rw [ho] at hci; simp at hci
      | 1 => rw [ho] at hci; simp at hci
      | j + 2 => rw [ho] at hci; simp at hci
    · exact (World.cell?_of_block (w := w1) (hf b e)).trans hci
theorem pow_yes {Z : Int} {n limit X m1 m4 m5 : Nat} {f q4 : Nat → Nat} {b1 b5 sg : Bool} {w wf : World} {ao5 : Option Addr} {cap5 : Nat} (hA : Z.natAbs = X) (hX : X = num 4294967296 f m1) (hZ : sgn b1 (num 4294967296 f m1) = Z) (hfit : bitLen (X ^ n) ≤ limit) (hl : limit ≤ 1000000) (c4 : Can 4294967296 q4 m4) (v4 : num 4294967296 q4 m4 = X ^ n) (l5 : m5 ≤ m4) (C5 : CanZ b5 q4 m5) (s5 : sgn b5 (num 4294967296 q4 m5) = sgn sg (num 4294967296 q4 m4)) (hsg : sg = (b1 && decide (n % 2 = 1))) (sv : Sl .u32 wf (.slice ao5 m5 cap5) m5 q4) (U : Up w wf) :
    PowEnd Z n limit w (.returned (.tuple #[.agg #[.bool b5, .slice ao5 m5 cap5], .bool true])) wf := by
  refine ⟨b5, ao5, m5, cap5, by rw [decide_eq_true (by rw [hA]; exact hfit)], fun _ => ⟨b5, m5, q4, ⟨_, rfl, sv⟩, C5, ?_, ?_⟩, fun h => ?_, U⟩
  · have := can_most c4 (by rw [v4]; exact hfit)
    omega
  · rw [s5, v4, hsg, hX, ← sgn_pow, hZ]
  · rw [hA] at h; omega
theorem pow_no {Z : Int} {n limit X : Nat} {w wf : World} (hA : Z.natAbs = X) (hfit : ¬ bitLen (X ^ n) ≤ limit) (U : Up w wf) : PowEnd Z n limit w (.returned (.tuple #[.agg #[.bool false, .slice none 0 0], .bool false])) wf :=
  ⟨false, none, 0, 0, by rw [decide_eq_false (by rw [hA]; exact hfit)], fun h => by rw [hA] at h; exact absurd h hfit, fun _ => ⟨rfl, rfl, rfl, rfl⟩, U⟩

set_option maxRecDepth 20000 in
set_option maxHeartbeats 4000000 in
theorem power_any (a : Value) (Z : Int) (M n limit : Nat) (w : World) (ha : RdD Z M w a) (hM : M ≤ 2000000) (hn : n < 9223372036854775808) (hl : limit ≤ 1000000) :
    Calls Tryd.prog 40 #[a, .int .i64 (n : Int), .int .i64 (limit : Int)] w fun e w' => PowEnd Z n limit w e w' := by
  obtain ⟨b, m, f, hm, hd, hM2, hZ⟩ := ha
  obtain ⟨v, rfl, hv⟩ := hm
  obtain ⟨ao, cap, rfl, -⟩ := id hv
  have hn0 : ¬ (n : Int) < 0 := by omega
  have hl0 : ¬ (limit : Int) < 0 := by omega
  have KW := fun w1 (u : Up w w1) => work_any (.agg #[.bool b, .slice ao m cap]) b m f w1 ⟨_, rfl, hv.up u⟩ hd
  have HKW := hide KW
  have HV := hide hv
  have HD := hide hd
  have HZ := hide hZ
  clear KW hv hd hZ
  have hodd : ((n : Int) % 2 == 1) = decide (n % 2 = 1) := by
    rcases Nat.mod_two_eq_zero_or_one n with e | e
    · rw [show (n : Int) % 2 = 0 by omega, decide_eq_false (by omega)]; rfl
    · rw [show (n : Int) % 2 = 1 by omega, decide_eq_true e]; rfl
  go_enter Tryd.func40, Tryd.ntmps40
  go_wp2_with (go_at_call 56; refine (HKW.out _ ((up_alloc _ _).tr (up_alloc _ _))).mono ?_; rintro e w1 ⟨a1, b1, m1, rfl, hW1, U1, C1, l1, s1⟩; obtain ⟨v1, hv1, sv1⟩ := hW1 w ⟨_, rfl, HV.out⟩; subst hv1; obtain ⟨ao1, cap1, hv1, -⟩ := id sv1; subst hv1; have HU1 : Hid (Up w w1) := hide (((up_alloc _ _).tr (up_alloc _ _)).tr U1); have HR1 := hide (U1.blk (two_blocks w _ _).2); have HC1 := hide C1; have HSV := hide sv1; have HS1 := hide s1; clear hW1 U1 C1 sv1 s1)
  have hA : Z.natAbs = num 4294967296 f m1 := by rw [← HZ.out, ← HS1.out, sgn_natAbs]
  obtain ⟨X, hX⟩ : ∃ X, X = num 4294967296 f m1 := ⟨_, rfl⟩
  rw [← hX] at hA
  have K1 := fun W (u : Up w W) => raise_any (.slice ao1 m1 cap1) m1 f X n limit 8 False W (HSV.out.up u) HC1.out.1 hX.symm (by omega) hn hl (by decide) (by decide) (fun h => h.elim)
  have K2 := fun W (u : Up w W) => raise_any (.slice ao1 m1 cap1) m1 f X n limit 9223372036854775807 True W (HSV.out.up u) HC1.out.1 hX.symm (by omega) hn hl (by decide) (by decide) (fun _ => by decide)
  have HK1 := hide K1
  have HK2 := hide K2
  have HA := hide hA
  have HX := hide hX
  have HB1 := hide (heap_alloc_new w1 (.cells #[.slice ao1 m1 cap1, .bool b1] 51))
  have HUa : Hid (Up w (w1.alloc (.cells #[.slice ao1 m1 cap1, .bool b1] 51))) := hide (HU1.out.tr (up_alloc _ _))
  have HUb : Hid (Up w1 (w1.alloc (.cells #[.slice ao1 m1 cap1, .bool b1] 51))) := hide (up_alloc _ _)
  clear K1 K2 hA hX
  generalize w1.alloc (.cells #[.slice ao1 m1 cap1, .bool b1] 51) = W2 at *
  obtain ⟨x80, x81, _, _, _⟩ := cells2 HB1.out
  by_cases hfit : bitLen (X ^ n) ≤ limit
  · rcases b1 with _ | _
    all_goals
      go_wp2_with (first
        | (go_at_call_of 67 (Value.int .i64 8); refine (HK1.out _ HUa.out).mono ?_; rintro e w3 ⟨u3, b3, rfl, h3, _, U3⟩; have hb3 : b3 = true := (by cases b3; exact absurd (h3 rfl) (by omega); rfl); subst hb3; obtain ⟨x90, x91, _, _, _⟩ := cells2 (U3.blk HB1.out); have HU3 := hide U3; clear h3 U3)
        | (go_at_call 67; refine (HK2.out _ (HUa.out.tr HU3.out)).mono ?_; rintro e w4 ⟨u4, b4, rfl, h4, k4, U4⟩; have hb4 : b4 = true := (by cases b4; exact absurd (h4 rfl) (by omega); rfl); subst hb4; obtain ⟨_, m4, q4, s4, c4, v4⟩ := k4 trivial rfl; obtain ⟨ao4, cap4, hu4, -⟩ := id s4; subst hu4; have HU4 : Hid (Up W2 w4) := hide (HU3.out.tr U4); obtain ⟨x100, x101, _, _, _⟩ := cells2 (HU4.out.blk HB1.out); have HS4 := hide s4; have HC4 := hide c4; have HV4 := hide v4; clear h4 k4 U4 s4 c4 v4)
        | (go_at_call 59; refine (numberOf_sl _ m4 q4 _ w4 HS4.out HC4.out.1).mono ?_; rintro e w5 ⟨a5, b5, m5, rfl, W5, U5, C5, l5, s5⟩; obtain ⟨v5, hv5, sv5⟩ := W5; subst hv5; obtain ⟨ao5, cap5, hv5, -⟩ := id sv5; subst hv5; have HU5 := hide U5; have HC5 := hide C5; have HS5 := hide s5; have HSV5 := hide sv5; clear U5 C5 s5 sv5)
        | (go_at_call 50; refine (answer_any _ b5 m5 q4 w5 ⟨_, rfl, HSV5.out.up HU5.out⟩).mono ?_; rintro e w6 ⟨a6, rfl, h6, U6⟩; have hh6 := h6 _ rfl; subst hh6; have HU6 : Hid (Up W2 w6) := hide ((HU4.out.tr HU5.out).tr U6); have HU6b : Hid (Up w4 w6) := hide (HU5.out.tr U6); obtain ⟨r0, r1, f0, f1, _⟩ := cells2 (HU6.out.blk (HUb.out.blk HR1.out)); clear h6 U6))
      have bb := HU6.out.blk (HUb.out.blk HR1.out)
      obtain ⟨t6, b6⟩ := sto_two bb (.bool b5) (.slice ao5 m5 cap5)
      obtain ⟨y0, y1, _, _, _⟩ := cells2 b6
      refine bodyPost_ret (by simp [results, Tryd.results40, go_sem, y0, y1]; rfl) rfl ?_
      exact pow_yes HA.out HX.out (HS1.out.trans HZ.out) hfit hl HC4.out HV4.out l5 HC5.out HS5.out (by simp) (sl_otherN bb (HSV5.out.up HU6b.out) t6.block) (t6.up (HUa.out.tr HU6.out) (by omega))
  · go_wp2_with (first
      | (go_at_call_of 67 (Value.int .i64 8); refine (HK1.out _ HUa.out).mono ?_; rintro e w3 ⟨u3, b3, rfl, _, _, U3⟩; obtain ⟨x90, x91, _, _, _⟩ := cells2 (U3.blk HB1.out); obtain ⟨r0, r1, f0, f1, _⟩ := cells2 (U3.blk (HUb.out.blk HR1.out)); have HU3 := hide U3; clear U3)
      | (go_at_call 67; refine (HK2.out _ (HUa.out.tr HU3.out)).mono ?_; rintro e w4 ⟨u4, b4, rfl, _, k4, U4⟩; have hb4 : b4 = false := (by cases b4; rfl; exact absurd (k4 trivial rfl).1 hfit); subst hb4; have HU4 : Hid (Up W2 w4) := hide (HU3.out.tr U4); obtain ⟨r40, r41, f40, f41, _⟩ := cells2 (HU4.out.blk (HUb.out.blk HR1.out)); clear k4 U4))
    · have bb := HU3.out.blk (HUb.out.blk HR1.out)
      obtain ⟨t6, b6⟩ := sto_two bb (.bool false) (.slice none 0 0)
      obtain ⟨y0, y1, _, _, _⟩ := cells2 b6
      refine bodyPost_ret (by simp [results, Tryd.results40, go_sem, y0, y1]; rfl) rfl ?_
      exact pow_no HA.out hfit (t6.up (HUa.out.tr HU3.out) (by omega))
    · have bb := HU4.out.blk (HUb.out.blk HR1.out)
      obtain ⟨t6, b6⟩ := sto_two bb (.bool false) (.slice none 0 0)
      obtain ⟨y0, y1, _, _, _⟩ := cells2 b6
      refine bodyPost_ret (by simp [results, Tryd.results40, go_sem, y0, y1]; rfl) rfl ?_
      exact pow_no HA.out hfit (t6.up (HUa.out.tr HU4.out) (by omega))

end Go.Proofs.YtjbocfhmfidjjaaDoor
