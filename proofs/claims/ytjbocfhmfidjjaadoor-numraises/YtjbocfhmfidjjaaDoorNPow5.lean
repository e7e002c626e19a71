/-
  What is proved here: num.raise: a power by squares, by heads or whole.
-/
import Derived.Deep.RegionHeld3
import Derived.Laws.BitsLemmas
import Derived.Test.YtjbocfhmfidjjaaDoorNPow4
import Derived.Test.YtjbocfhmfidjjaaDoorLen64
namespace Go.Proofs.YtjbocfhmfidjjaaDoor
open Go Go.RowKit

/-- What the loop of raise keeps: the factor's box, the power's box. -/
structure RsI (w : World) (X : Nat) (big : Prop) (nb Bf Bp : Nat) (af : Option Addr) (nf pf x F : Nat) (m h c M : Nat) (ap : Option Addr) (np pp : Nat) (W : World) : Prop where
  U : Up w W
  bf : W.heap[Bf]? = some (.cells #[.slice af nf pf, .int .i64 (x : Int)] 96 (0, 0))
  hf : HdD F x nb W (.agg #[.slice af nf pf, .int .i64 (x : Int)])
  pf : PwI X big 1 F x
  xl : x ≤ nb
  bp : W.heap[Bp]? = some (.cells #[.slice ap np pp, .int .i64 (c : Int)] 96 (0, 0))
  hp : HdD h c M W (.agg #[.slice ap np pp, .int .i64 (c : Int)])
  pp : PwI X big m h c
  ne : Bf ≠ Bp
  lp : w.heap.size ≤ Bp

theorem HdD.other {h c M : Nat} {w1 wf : World} {g : Nat} {a : Option Addr} {m k : Nat} {z : Int} {E : TypeId} {v : Value} (hb : w1.heap[g]? = some (.cells #[.slice a m k, .int .i64 z] E (0, 0))) (hd : HdD h c M w1 v) (hf : ∀ k, k ≠ g → wf.heap[k]? = w1.heap[k]?) : HdD h c M wf v := by
  obtain ⟨u, n, q, e, s, r⟩ := hd
  exact ⟨u, n, q, e, sl_other hb s hf, r⟩
theorem HdD.form {h c M : Nat} {w : World} {v : Value} (hd : HdD h c M w v) : ∃ a n k, v = .agg #[.slice a n k, .int .i64 (c : Int)] := by
  obtain ⟨u, n, q, e, ⟨a, k, rfl, _⟩, _⟩ := hd
  exact ⟨a, n, k, e⟩

/-- The power is stored anew. -/
theorem RsI.store {w : World} {X : Nat} {big : Prop} {nb Bf Bp : Nat} {af : Option Addr} {nf pf x F : Nat} {m h c M : Nat} {ap : Option Addr} {np pp : Nat} {W w1 : World} (k : RsI w X big nb Bf Bp af nf pf x F m h c M ap np pp W) (u : Up W w1) {a : Option Addr} {n q h' c' M' m' : Nat} (hd : HdD h' c' M' w1 (.agg #[.slice a n q, .int .i64 (c' : Int)])) (p : PwI X big m' h' c') :
    RsI w X big nb Bf Bp af nf pf x F m' h' c' M' a n q ((w1.setCell ⟨Bp, 0, none⟩ (.slice a n q)).setCell ⟨Bp, 1, none⟩ (.int .i64 (c' : Int))) := by
  obtain ⟨t, b⟩ := sto_two (u.blk k.bp) (.slice a n q) (.int .i64 (c' : Int))
  have hb := u.blk k.bp
  exact ⟨t.up (k.U.tr u) k.lp, (t.block _ k.ne).trans (u.blk k.bf), (k.hf.up u).other hb t.block, k.pf, k.xl, b, hd.other hb t.block, p, k.ne, k.lp⟩

/-- How a head's limbs are bounded by its digits. -/
theorem HdD.tight {h c M : Nat} {w : World} {v : Value} (hd : HdD h c M w v) {L : Nat} (hL : bitLen h ≤ L) : HdD h c L w v := by
  obtain ⟨u, n, q, e, s, k, hv, _⟩ := hd
  refine ⟨u, n, q, e, s, k, hv, ?_⟩
  rcases Nat.eq_zero_or_pos n with e0 | e0
  · omega
  · have ht : q (n - 1) ≠ 0 := by rcases k.2 with e1 | e1; omega; exact e1
    have := bitLen_num k.1 e0 ht
    rw [hv] at this
    have h2 : 0 < bitLen (q (n - 1)) := by unfold bitLen; rw [if_neg ht]; omega
    omega

theorem factor_pw {X : Nat} {big : Prop} {nb x : Nat} {g : Nat → Nat} (hc : Can 4294967296 g nb) (hX : num 4294967296 g nb = X) (hx : x ≤ nb) (hx0 : x ≠ 0 → x < nb) (hb : big → x = 0) : PwI X big 1 (X / 4294967296 ^ x) x := by
  refine ⟨by rw [Nat.pow_one]; exact Nat.div_mul_le_self _ _, fun b => by rw [hb b]; simp, fun h0 => ?_, fun h0 => ?_⟩
  · rw [← hX, ← num_low hc.1 hx]
    rw [← hX] at h0
    have := (can_pos hc).1 h0
    exact (can_pos (can_cut hc hx)).2 (by by_cases e : x = 0; omega; have := hx0 e; omega)
  · have : ¬ 0 < nb := fun e => by have := (can_pos hc).2 e; omega
    have e : x = 0 := by omega
    rw [e, h0]
    simp

theorem bitLen_top {n : Nat} (hn : 0 < n) : 2 ^ (bitLen n - 1) ≤ n ∧ n < 2 ^ bitLen n := by
  unfold bitLen
  rw [if_neg (by omega)]
  exact ⟨Nat.log2_self_le (by omega), Nat.lt_log2_self⟩

theorem i64_and1 (n : Int) : bits .and .i64 n 1 = n % 2 := by
  have h1 : (BitVec.ofInt 64 1).toNat = 2 ^ 1 - 1 := by decide
  have key : (BitVec.ofInt 64 n &&& BitVec.ofInt 64 1).toNat = (n % ((2 ^ 64 : Nat) : Int)).toNat % 2 ^ 1 := by
    rw [BitVec.toNat_and, BitVec.toNat_ofInt, h1, Nat.and_two_pow_sub_one_eq_mod]
  show IntKind.i64.wrap ((BitVec.ofInt 64 n &&& BitVec.ofInt 64 1).toNat : Nat) = n % 2
  rw [key, IntKind.wrap_i64]
  omega
theorem RsI.tight {w : World} {X : Nat} {big : Prop} {nb Bf Bp : Nat} {af : Option Addr} {nf pf x F : Nat} {m h c M L : Nat} {ap : Option Addr} {np pp : Nat} {W W' : World} (k : RsI w X big nb Bf Bp af nf pf x F m h c M ap np pp W) (hL : bitLen h ≤ L) (u : Up W W') : RsI w X big nb Bf Bp af nf pf x F m h c L ap np pp W' :=
  ⟨k.U.tr u, u.blk k.bf, k.hf.up u, k.pf, k.xl, u.blk k.bp, (k.hp.tight hL).up u, k.pp, k.ne, k.lp⟩

set_option maxRecDepth 20000 in
set_option maxHeartbeats 4000000 in
theorem raise_any (v : Value) (nb : Nat) (g : Nat → Nat) (X n limit : Nat) (kp : Int) (big : Prop) (w : World) (hs : Sl .u32 w v nb g) (hc : Can 4294967296 g nb) (hX : num 4294967296 g nb = X) (hnb : nb ≤ 2000000) (hn : n < 9223372036854775808) (hl : limit ≤ 1000000) (hk1 : 1 ≤ kp) (hk2 : kp ≤ 9223372036854775807) (hbig : big → (100000000 : Int) ≤ kp) :
    Calls Tryd.prog 67 #[v, .int .i64 (n : Int), .int .i64 (limit : Int), .int .i64 kp] w fun e w' => ∃ u b, e = .returned (.tuple #[u, .bool b]) ∧ (b = false → limit < bitLen (X ^ n)) ∧ (big → b = true → bitLen (X ^ n) ≤ limit ∧ ∃ m q, Sl .u32 w' u m q ∧ Can 4294967296 q m ∧ num 4294967296 q m = X ^ n) ∧ Up w w' := by
  obtain ⟨ao, cap, rfl, -⟩ := id hs
  have KH := headOf_any (.slice ao nb cap) nb g 0 kp w hs hk1 hk2 (by omega) (by omega)
  have KL := fun w1 => blen_any n w1 (by omega)
  have hnw : IntKind.u64.wrap (n : Int) = (n : Int) := by
    simp only [IntKind.wrap, IntKind.bits, IntKind.signed]
    simp
    omega
  have HKH := hide KH
  have HC := hide (And.intro hc hX)
  have HB := hide hbig
  obtain ⟨L, hL⟩ : ∃ L, L = bitLen n := ⟨_, rfl⟩
  rw [← hL] at KL
  have hL64 : L ≤ 63 := by
    rcases Nat.eq_zero_or_pos n with e | e
    · rw [hL, e, bitLen_zero]; omega
    · have := (bitLen_top e).1
      rw [← hL] at this
      rcases Nat.lt_or_ge 63 L with h6 | h6
      · exfalso
        have : 2 ^ 63 ≤ 2 ^ (L - 1) := Nat.pow_le_pow_right (by decide) (by omega)
        have h9 : (2 : Nat) ^ 63 = 9223372036854775808 := by decide
        omega
      · exact h6
  have HL := hide hL
  clear KH hs hc hX hbig hL
  go_enter Tryd.func67, Tryd.ntmps67
  go_wp2_with (first
    | (go_at_call 89; refine HKH.out.mono ?_; rintro e w1 ⟨u, x, rfl, hx, hx0, hsu, hw, U1⟩; obtain ⟨af, pf, hu, -⟩ := id hsu; subst hu; have HSU := hide (And.intro hx (And.intro hx0 (And.intro hsu hw))); have HU1 := hide U1; clear hx hx0 hsu hw U1)
    | (go_at_call 90; refine (KL _).mono ?_; rintro e w2 ⟨rfl, hw2⟩; replace hw2 := hw2.symm; subst hw2))
  have R0 : RsI w X big nb w1.heap.size (w1.heap.size + 1 + 1) af (nb - x) pf x (X / 4294967296 ^ x) 0 1 0 (limit + 2) (some ⟨w1.heap.size + 1, 0, none⟩) 1 1 (((w1.alloc (.cells #[.slice af (nb - x) pf, .int .i64 (x : Int)] 96)).alloc (.cells #[.int .u32 1] 64)).alloc (.cells #[.slice (some ⟨w1.heap.size + 1, 0, none⟩) 1 1, .int .i64 0] 96)) := by
    obtain ⟨q1, q2, q3, q4⟩ := HSU.out
    obtain ⟨t1, t2, t3⟩ := three_blocks w1 (.cells #[.slice af (nb - x) pf, .int .i64 (x : Int)] 96) (.cells #[.int .u32 1] 64) (.cells #[.slice (some ⟨w1.heap.size + 1, 0, none⟩) 1 1, .int .i64 0] 96)
    have U3 : Up w1 (((w1.alloc (.cells #[.slice af (nb - x) pf, .int .i64 (x : Int)] 96)).alloc (.cells #[.int .u32 1] 64)).alloc (.cells #[.slice (some ⟨w1.heap.size + 1, 0, none⟩) 1 1, .int .i64 0] 96)) := ((up_alloc _ _).tr (up_alloc _ _)).tr (up_alloc _ _)
    generalize ((w1.alloc (.cells #[.slice af (nb - x) pf, .int .i64 (x : Int)] 96)).alloc (.cells #[.int .u32 1] 64)).alloc (.cells #[.slice (some ⟨w1.heap.size + 1, 0, none⟩) 1 1, .int .i64 0] 96) = W at *
    have hu1 := HU1.out.size
    refine ⟨HU1.out.tr U3, t1, ⟨_, nb - x, _, rfl, q3.up (HU1.out.tr U3), can_cut HC.out.1 q1, by rw [num_low HC.out.1.1 q1, HC.out.2], by omega⟩, factor_pw HC.out.1 HC.out.2 q1 q2 (fun b => (q4 (by have := HB.out b; omega)).2), q1, t3, ⟨_, 1, fun _ => 1, rfl, ?_, ⟨fun i hi => (by decide : (1 : Nat) < 4294967296), .inr (by decide)⟩, by simp [num], by omega⟩, PwI.one X big, by omega, by omega⟩
    refine ⟨_, 1, rfl, Nat.le_refl _, by decide, (fun e => by cases e), .inr ⟨w1.heap.size + 1, 0, rfl, fun i hi => ?_⟩⟩
    have e0 : i = 0 := by omega
    subst e0
    exact cell_of_row W _ 0 _ _ _ t2
  have HR0 := hide R0
  clear R0
  go_loopw [12] (fun a12 wr => ∃ j h c ap np pp, j ≤ L ∧ a12 = .int .i64 ((j : Int) - 1) ∧ RsI w X big nb w1.heap.size (w1.heap.size + 1 + 1) af (nb - x) pf x (X / 4294967296 ^ x) (n / 2 ^ j) h c (limit + 2) ap np pp wr ∧ c ≤ limit ∧ bitLen h ≤ limit + 1) (fun a12 _ => (intOf a12 + 1).toNat)
  case atStart =>
    refine ⟨L, 1, 0, some ⟨w1.heap.size + 1, 0, none⟩, 1, 1, Nat.le_refl _, rfl, ?_, Nat.zero_le _, ?_⟩
    · have e : n / 2 ^ L = 0 := by
        rcases Nat.eq_zero_or_pos n with e | e
        · rw [e]; exact Nat.zero_div _
        · rw [HL.out]; exact Nat.div_eq_of_lt (bitLen_top e).2
      rw [e]
      exact HR0.out
    · have : bitLen 1 = 1 := by decide
      omega
  case round =>
    obtain ⟨j, h, c, ap, np, pp, hjL, rfl, hR, hcl, hbl⟩ := hrel
    rcases Nat.eq_zero_or_pos j with hj0 | hj0
    · subst hj0
      rw [show (((0 : Nat) : Int) - 1) = (-1 : Int) by omega]
      rw [show n / 2 ^ 0 = n by simp] at hR
      obtain ⟨p0, p1, z0, z1, _⟩ := cells2 hR.bp
      have HR := hide hR
      have HKO := hide (isOver_any _ h c (limit + 2) limit wr.drew (hR.hp.up (up_drew _)) (by omega) (by omega) (by omega))
      clear hR
      go_wp2
      go_region_held3 (fun w' => w'.cell? ⟨w1.heap.size + 1 + 1, 0, none⟩ = some (.slice ap np pp) ∧ w'.cell? ⟨w1.heap.size + 1 + 1, 1, none⟩ = some (.int .i64 (c : Int))) (go_keep)
        ((go_at_call 92; refine HKO.out.mono ?_; rintro e w4 ⟨rfl, u4⟩; have U4 : Up wr w4 := (up_drew wr).tr u4; obtain ⟨c40, c41, _, _, _⟩ := cells2 (U4.blk HR.out.bp); have HU4 := hide U4; clear u4 U4))
      go_wp2
      go_ret2
      refine ⟨_, _, rfl, fun hb => HR.out.pp.over (Nat.le_refl _) (.inr rfl) (by simpa using hb), fun b hb => ?_, HR.out.U.tr HU4.out⟩
      obtain ⟨e1, e2⟩ := HR.out.pp.eq b
      have h2 : ¬ limit < 32 * c + bitLen h := by simpa using hb
      rw [e1, e2] at h2
      obtain ⟨u, k, q, e3, s, kc, hv, _⟩ := HR.out.hp
      cases e3
      exact ⟨by omega, _, q, s.up HU4.out, kc, by rw [hv, e2]⟩
    · obtain ⟨i, hi⟩ : ∃ i, j = i + 1 := ⟨j - 1, by omega⟩
      subst hi
      rw [show (((i + 1 : Nat) : Int) - 1) = (i : Int) by omega]
      have hiI : (0 : Int) ≤ (i : Int) := by omega
      obtain ⟨p0, p1, z0, z1, _⟩ := cells2 hR.bp
      obtain ⟨m, hm⟩ : ∃ m, m = n / 2 ^ (i + 1) := ⟨_, rfl⟩
      rw [← hm] at hR
      obtain ⟨y, hy⟩ : ∃ y, y = n / 2 ^ i := ⟨_, rfl⟩
      have hyI : (n : Int) / 2 ^ i = (y : Int) := by rw [hy, Int.natCast_ediv, Int.natCast_pow]; rfl
      have hmy : m = y / 2 := by rw [hm, hy, Nat.div_div_eq_div_mul, Nat.pow_succ]
      have hypos0 : 0 < n / 2 ^ i := by
        have hn0 : 0 < n := by
          rcases Nat.eq_zero_or_pos n with e | e
          · have := HL.out; rw [e, bitLen_zero] at this; omega
          · exact e
        have h1 := (bitLen_top hn0).1
        rw [← HL.out] at h1
        exact Nat.div_pos (Nat.le_trans (Nat.pow_le_pow_right (by decide) (by omega)) h1) (Nat.two_pow_pos i)
      have hand := i64_and1 (y : Int)
      have KT := headTimes_any _ _ h c (limit + 2) h c (limit + 2) kp wr hR.hp hR.hp hk1 hk2 (by omega) (by omega) (by omega)
      have HKT := hide KT
      have HR := hide hR
      have HY := hide hy
      have HYP := hide hypos0
      have HMY := hide hmy
      clear KT hR hm hy hypos0 hmy
      by_cases hbit : y % 2 = 1
      · have hyb : (y : Int) % 2 = 1 := by omega
        have HYB := hide hbit
        clear hbit
        go_wp2_with (first
          | (go_at_call 91; have mk : Nat := d2; refine (headTimes_any _ _ _ d2 (limit + 2 + (limit + 2)) _ x nb kp _ HR2.out.hp HR2.out.hf hk1 hk2 (by omega) (by have := HD2.out; omega) (by have := HR2.out.xl; omega)).mono ?_; clear mk; rintro e w3 ⟨v3, x3, rfl, T3⟩; obtain ⟨d3, hd3⟩ : ∃ d3, d3 = d2 + x + x3 := ⟨_, rfl⟩; have P3 := HR2.out.pp.times HR2.out.pf T3.pos (fun b => T3.whole (by have := HB.out b; omega)) T3.small; have H3 := T3.hd; rw [← hd3] at H3 P3; obtain ⟨a3, n3, q3, hv3⟩ := H3.form; subst hv3; have R3 := HR2.out.store T3.U H3 P3; obtain ⟨s0, s1, e0, e1, _⟩ := cells2 (T3.U.blk HR2.out.bp); have HR3 := hide R3; have HD3 : Hid (d3 ≤ 100000000) := hide (by have := T3.le; have := HD2.out; have := HR2.out.xl; omega); clear R3 H3 P3 T3 hd3)
          | (go_at_call 91; refine HKT.out.mono ?_; rintro e w2 ⟨v2, x2, rfl, T2⟩; obtain ⟨d2, hd2⟩ : ∃ d2, d2 = c + c + x2 := ⟨_, rfl⟩; have P2 := HR.out.pp.times HR.out.pp T2.pos (fun b => T2.whole (by have := HB.out b; omega)) T2.small; have H2 := T2.hd; rw [← hd2] at H2 P2; obtain ⟨a2, n2, q2, hv2⟩ := H2.form; subst hv2; have R2 := HR.out.store T2.U H2 P2; obtain ⟨y0, y1, f0, f1, _⟩ := cells2 (T2.U.blk HR.out.bp); obtain ⟨g0, g1, _, _, _⟩ := cells2 R2.bf; have HR2 := hide R2; have HD2 : Hid (d2 ≤ 10 * limit + 100) := hide (by have := T2.le; omega); clear R2 H2 P2 T2 hd2)
          | (go_at_call 92; refine (isOver_any _ _ d3 (limit + 2 + (limit + 2) + nb) limit _ HR3.out.hp (by omega) (by have := HD3.out; omega) (by omega)).mono ?_; rintro e w4 ⟨he, u4⟩; generalize hob : decide (limit < _) = ob at he; subst he; have HOB := hide hob; have HU4 := hide u4; clear hob u4))
        all_goals
          have hyE : m + m + 1 = n / 2 ^ i := by have := HMY.out; have := HYB.out; have := HY.out; omega
          have hypos := HYP.out
        · rename_i hob1
          go_ret2
          have h1 := HOB.out
          rw [hob1] at h1
          have h2 := of_decide_eq_true h1
          exact ⟨_, false, rfl, fun _ => HR3.out.pp.over (by rw [hyE]; exact Nat.div_le_self _ _) (.inl (by rw [hyE]; exact hypos)) h2, (fun _ h => by cases h), HR3.out.U.tr HU4.out⟩
        · rename_i hob1
          have h1 := HOB.out
          rw [hob1] at h1
          have h2 := of_decide_eq_false h1
          have R9 := HR3.out.tight (L := limit + 2) (by omega) HU4.out
          rw [hyE] at R9
          exact ⟨⟨i, _, _, _, _, _, by omega, by go_num, R9, by omega, by omega⟩, by simp [intOf]⟩
      · have hyb : (y : Int) % 2 = 0 := by omega
        have HYB := hide hbit
        clear hbit
        go_wp2_with (first
          | (go_at_call 91; refine HKT.out.mono ?_; rintro e w2 ⟨v2, x2, rfl, T2⟩; obtain ⟨d2, hd2⟩ : ∃ d2, d2 = c + c + x2 := ⟨_, rfl⟩; have P2 := HR.out.pp.times HR.out.pp T2.pos (fun b => T2.whole (by have := HB.out b; omega)) T2.small; have H2 := T2.hd; rw [← hd2] at H2 P2; obtain ⟨a2, n2, q2, hv2⟩ := H2.form; subst hv2; have R2 := HR.out.store T2.U H2 P2; obtain ⟨y0, y1, f0, f1, _⟩ := cells2 (T2.U.blk HR.out.bp); obtain ⟨g0, g1, _, _, _⟩ := cells2 R2.bf; have HR2 := hide R2; have HD2 : Hid (d2 ≤ 10 * limit + 100) := hide (by have := T2.le; omega); clear R2 H2 P2 T2 hd2)
          | (go_at_call 92; refine (isOver_any _ _ d2 (limit + 2 + (limit + 2)) limit _ HR2.out.hp (by omega) (by have := HD2.out; omega) (by omega)).mono ?_; rintro e w4 ⟨he, u4⟩; generalize hob : decide (limit < _) = ob at he; subst he; have HOB := hide hob; have HU4 := hide u4; clear hob u4))
        all_goals
          have hyE : m + m = n / 2 ^ i := by have := HMY.out; have := HYB.out; have := HY.out; omega
          have hypos := HYP.out
        · rename_i hob1
          go_ret2
          have h1 := HOB.out
          rw [hob1] at h1
          have h2 := of_decide_eq_true h1
          exact ⟨_, false, rfl, fun _ => HR2.out.pp.over (by rw [hyE]; exact Nat.div_le_self _ _) (.inl (by rw [hyE]; exact hypos)) h2, (fun _ h => by cases h), HR2.out.U.tr HU4.out⟩
        · rename_i hob1
          have h1 := HOB.out
          rw [hob1] at h1
          have h2 := of_decide_eq_false h1
          have R9 := HR2.out.tight (L := limit + 2) (by omega) HU4.out
          rw [hyE] at R9
          exact ⟨⟨i, _, _, _, _, _, by omega, by go_num, R9, by omega, by omega⟩, by simp [intOf]⟩


end Go.Proofs.YtjbocfhmfidjjaaDoor
