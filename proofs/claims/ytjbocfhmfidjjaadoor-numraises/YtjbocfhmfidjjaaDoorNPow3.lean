/-
  What is proved here: heads of powers: their product, and whether one has too many binary digits.
-/
import Derived.Deep.RegionHeld3
import Derived.BigQuiet
import Derived.Test.YtjbocfhmfidjjaaDoorNPow2
import Derived.Test.YtjbocfhmfidjjaaDoorBits
namespace Go.Proofs.YtjbocfhmfidjjaaDoor
open Go Go.RowKit

/-- A head: its value is h, c limbs are cut off below, it has at most M limbs. -/
def HdD (h c M : Nat) (w : World) (a : Value) : Prop := ∃ v n g, a = .agg #[v, .int .i64 (c : Int)] ∧ Sl .u32 w v n g ∧ Can 4294967296 g n ∧ num 4294967296 g n = h ∧ n ≤ M
theorem HdD.up {h c M : Nat} {w w' : World} {a : Value} (k : HdD h c M w a) (u : Up w w') : HdD h c M w' a := by
  obtain ⟨v, n, g, e, s, r⟩ := k
  exact ⟨v, n, g, e, s.up u, r⟩

theorem num_low {f : Nat → Nat} {n x : Nat} (hf : ∀ i, i < n → f i < 4294967296) (hx : x ≤ n) : num 4294967296 (fun i => f (x + i)) (n - x) = num 4294967296 f n / 4294967296 ^ x := by
  have h1 := num_split 4294967296 f x (n - x)
  rw [show x + (n - x) = n by omega] at h1
  have h2 : num 4294967296 f x < 4294967296 ^ x := num_lt fun i hi => hf i (by omega)
  rw [h1, Nat.add_mul_div_left _ _ (Nat.lt_of_le_of_lt (Nat.zero_le _) h2), Nat.div_eq_of_lt h2, Nat.zero_add]
theorem can_cut {f : Nat → Nat} {n x : Nat} (hc : Can 4294967296 f n) (hx : x ≤ n) : Can 4294967296 (fun i => f (x + i)) (n - x) := by
  refine ⟨fun i hi => hc.1 _ (by omega), ?_⟩
  rcases Nat.eq_or_lt_of_le hx with e | e
  · exact .inl (by omega)
  · right
    rcases hc.2 with e2 | e2
    · omega
    · show f (x + (n - x - 1)) ≠ 0
      rw [show x + (n - x - 1) = n - 1 by omega]
      exact e2
theorem can_pos {f : Nat → Nat} {n : Nat} (hc : Can 4294967296 f n) : 0 < num 4294967296 f n ↔ 0 < n := by
  constructor
  · intro h
    rcases Nat.eq_zero_or_pos n with e | e
    · subst e; simp [num] at h
    · exact e
  · intro h
    have := num_ge (B := 4294967296) h (by rcases hc.2 with e | e; omega; exact e)
    have h2 : 0 < 4294967296 ^ (n - 1) := Nat.pow_pos (by decide)
    omega
theorem can_one {f : Nat → Nat} {n : Nat} (hc : Can 4294967296 f n) (h : num 4294967296 f n < 4294967296) : n ≤ 1 := by
  rcases Nat.lt_or_ge 1 n with e | e
  · exfalso
    have := num_ge (B := 4294967296) (show 0 < n by omega) (by rcases hc.2 with e | e; omega; exact e)
    have h2 : 4294967296 ^ 1 ≤ 4294967296 ^ (n - 1) := Nat.pow_le_pow_right (by decide) (by omega)
    omega
  · exact e

/-- A list of limbs does not lie in a head's own block. -/
theorem sl_other {w1 wf : World} {g : Nat} {a : Option Addr} {m c : Nat} {z : Int} {E : TypeId} {u : Value} {n : Nat} {f : Nat → Nat} (hb : w1.heap[g]? = some (.cells #[.slice a m c, .int .i64 z] E (0, 0))) (hs : Sl .u32 w1 u n f) (hf : ∀ k, k ≠ g → wf.heap[k]? = w1.heap[k]?) : Sl .u32 wf u n f := by
  obtain ⟨ao, cap, rfl, h1, h2, h0, h3⟩ := hs
  refine ⟨ao, cap, rfl, h1, h2, h0, ?_⟩
  rcases h3 with e | ⟨b, off, rfl, hc⟩
  · exact .inl e
  · refine .inr ⟨b, off, rfl, fun i hi => ?_⟩
    have hci := hc i hi
    by_cases e : b = g
    · exfalso
      subst e
      simp only [World.cell?, hb] at hci
      match ho : off + i with
      | 0 => rw [ho] at hci; simp at hci
      | 1 => rw [ho] at hci; simp at hci
      | j + 2 => rw [ho] at hci; simp at hci
    · exact (World.cell?_of_block (w := w1) (hf b e)).trans hci

/-- What comes of a product of heads. -/
structure TimesAt (h1 c1 M1 h2 c2 M2 : Nat) (kp : Int) (w w' : World) (v : Value) (x : Nat) : Prop where
  hd : HdD (h1 * h2 / 4294967296 ^ x) (c1 + c2 + x) (M1 + M2) w' v
  pos : 0 < h1 * h2 → 0 < h1 * h2 / 4294967296 ^ x
  whole : ((M1 + M2 : Nat) : Int) ≤ kp → x = 0
  small : h1 * h2 < 4294967296 → x = 0
  le : x ≤ M1 + M2
  U : Up w w'

theorem times_of {h1 c1 M1 h2 c2 M2 : Nat} {kp : Int} {w W w2 : World} {n' x c : Nat} {f' : Nat → Nat} {u v' : Value} (hc : Can 4294967296 f' n') (hn : n' ≤ M1 + M2) (hv : num 4294967296 f' n' = h1 * h2) (hx : x ≤ n') (hx0 : x ≠ 0 → x < n') (hs : Sl .u32 W u (n' - x) (fun i => f' (x + i))) (hw : (n' : Int) ≤ kp → u = v' ∧ x = 0) (hW : Up W w2) (hU : Up w w2) (hcc : c = c1 + c2 + x) : TimesAt h1 c1 M1 h2 c2 M2 kp w w2 (.agg #[u, .int .i64 (c : Int)]) x := by
  subst hcc
  refine ⟨⟨u, n' - x, _, rfl, hs.up hW, can_cut hc hx, by rw [num_low hc.1 hx, hv], by omega⟩, fun h => ?_, fun h => (hw (by omega)).2, fun h => ?_, by omega, hU⟩
  · rw [← hv] at h ⊢
    rw [← num_low hc.1 hx]
    have := (can_pos hc).1 h
    exact (can_pos (can_cut hc hx)).2 (by by_cases e : x = 0; omega; have := hx0 e; omega)
  · rw [← hv] at h
    have := can_one hc h
    by_cases e : x = 0
    · exact e
    · have := hx0 e; omega

set_option maxRecDepth 20000 in
set_option maxHeartbeats 4000000 in
theorem headTimes_any (a b : Value) (h1 c1 M1 h2 c2 M2 : Nat) (kp : Int) (w : World) (ha : HdD h1 c1 M1 w a) (hb : HdD h2 c2 M2 w b) (hk1 : 1 ≤ kp) (hk2 : kp ≤ 9223372036854775807) (hM : M1 + M2 ≤ 1000000000) (hc1 : c1 ≤ 1000000000000) (hc2 : c2 ≤ 1000000000000) :
    Calls Tryd.prog 91 #[a, b, .int .i64 kp] w fun e w' => ∃ v x, e = .returned v ∧ TimesAt h1 c1 M1 h2 c2 M2 kp w w' v x := by
  obtain ⟨v1, n1, g1, rfl, s1, k1, e1, l1⟩ := ha
  obtain ⟨v2, n2, g2, rfl, s2, k2, e2, l2⟩ := hb
  obtain ⟨ao1, cap1, rfl, -⟩ := id s1
  obtain ⟨ao2, cap2, rfl, -⟩ := id s2
  obtain ⟨cc, hcc⟩ : ∃ cc, cc = c1 + c2 := ⟨_, rfl⟩
  have hccI : (c1 : Int) + (c2 : Int) = (cc : Int) := by omega
  have hccl : cc ≤ 2000000000000 := by omega
  have hwcc : IntKind.i64.wrap (cc : Int) = (cc : Int) := by
    simp only [IntKind.wrap, IntKind.bits, IntKind.signed]
    simp
    omega
  obtain ⟨W0, hW0⟩ : ∃ W0, W0 = (((w.alloc (.cells #[.slice ao1 n1 cap1, .int .i64 (c1 : Int)] 96)).alloc (.cells #[.slice ao2 n2 cap2, .int .i64 (c2 : Int)] 96)).alloc (.cells #[.slice none 0 0, .int .i64 0] 96)) := ⟨_, rfl⟩
  have tb : W0.heap[w.heap.size]? = some (.cells #[.slice ao1 n1 cap1, .int .i64 (c1 : Int)] 96 (0, 0)) ∧ W0.heap[w.heap.size + 1]? = some (.cells #[.slice ao2 n2 cap2, .int .i64 (c2 : Int)] 96 (0, 0)) ∧ W0.heap[w.heap.size + 1 + 1]? = some (.cells #[.slice none 0 0, .int .i64 0] 96 (0, 0)) := by rw [hW0]; exact three_blocks w _ _ _
  have U0 : Up w W0 := by rw [hW0]; exact ((up_alloc _ _).tr (up_alloc _ _)).tr (up_alloc _ _)
  obtain ⟨x0, x1, _, _, _⟩ := cells2 tb.1
  obtain ⟨y0, y1, _, _, _⟩ := cells2 tb.2.1
  have HT := hide tb
  have HU0 := hide U0
  have HW0 := hide hW0
  clear tb U0 hW0
  have HS1 := hide s1
  have HS2 := hide s2
  have HK1 := hide k1.1
  have HK2 := hide k2.1
  have HE := hide (And.intro e1 e2)
  have HCC := hide hcc
  clear s1 s2 k1 k2 e1 e2 hcc
  go_enter Tryd.func91, Tryd.ntmps91
  go_wp2
  rw [← HW0.out]
  go_region_held3 (fun w' => w'.cell? ⟨w.heap.size, 0, none⟩ = some (.slice ao1 n1 cap1) ∧ w'.cell? ⟨w.heap.size, 1, none⟩ = some (.int .i64 (c1 : Int)) ∧ w'.cell? ⟨w.heap.size + 1, 0, none⟩ = some (.slice ao2 n2 cap2) ∧ w'.cell? ⟨w.heap.size + 1, 1, none⟩ = some (.int .i64 (c2 : Int))) (first | exact ⟨keep2 (by omega) x20, keep2 (by omega) x21, keep2 (by omega) y20, keep2 (by omega) y21⟩ | (go_keep; done))
    (first
      | (go_at_call 79; refine (mul2 (.slice ao1 n1 cap1) (.slice ao2 n2 cap2) n1 n2 g1 g2 W0.drew (HS1.out.up (HU0.out.tr (up_drew _))) (HS2.out.up (HU0.out.tr (up_drew _))) HK1.out HK2.out (by omega)).mono ?_; rintro e w1 ⟨v', n', f', rfl, o', bel, can', le', val'⟩; have U1 : Up W0 w1 := (up_drew W0).tr bel; obtain ⟨x10, x11, _, _, _⟩ := cells2 (U1.blk HT.out.1); obtain ⟨y10, y11, _, _, _⟩ := cells2 (U1.blk HT.out.2.1); have HU1 := hide U1; have HO := hide o'.sl; obtain ⟨ao', cp', hv', -⟩ := id o'.sl; subst hv'; have HC := hide can'; have HV := hide val'; clear U1 o' bel can' val')
      | (go_at_call 89; refine (headOf_any (.slice ao' n' cp') n' f' cc kp w1 HO.out hk1 hk2 (by omega) (by omega)).mono ?_; rintro e w2 ⟨u, x, rfl, hx, hx0, hs, hw, U2⟩; have U2' : Up W0 w2 := HU1.out.tr U2; obtain ⟨x20, x21, _, _, _⟩ := cells2 (U2'.blk HT.out.1); obtain ⟨y20, y21, _, _, _⟩ := cells2 (U2'.blk HT.out.2.1); obtain ⟨z20, z21, f20, f21, _⟩ := cells2 (U2'.blk HT.out.2.2); have HU2 := hide U2'; have HU2b := hide U2; obtain ⟨au, cu, hu, -⟩ := id hs; subst hu; have HR := hide (And.intro hx (And.intro hx0 (And.intro hs hw))); clear U2 U2' hx hx0 hs hw))
  go_wp2
  have bb := HU2.out.blk HT.out.2.2
  have hb1 := heap_setCell_same w2 (w.heap.size + 1 + 1) 0 _ _ (.slice au (n' - x) cu) bb
  have hb2 := heap_setCell_same _ (w.heap.size + 1 + 1) 1 _ _ (.int .i64 ((cc : Int) + (x : Int))) hb1
  obtain ⟨r0, r1, _, _, _⟩ := cells2 hb2
  refine bodyPost_ret (by simp [results, Tryd.results91, go_sem, r0, r1]; rfl) rfl ?_
  obtain ⟨q1, q2, q3, q4⟩ := HR.out
  have hT := (turn_setCell w2 (w.heap.size + 1 + 1) 0 (.slice au (n' - x) cu)).trans (turn_setCell _ (w.heap.size + 1 + 1) 1 (.int .i64 ((cc : Int) + (x : Int))))
  have hs3 := sl_other bb (q3.up HU2b.out) (fun k hk => hT.block k hk)
  have hcI : ((c1 + c2 + x : Nat) : Int) = (cc : Int) + (x : Int) := by have := HCC.out; omega
  have hUf : Up w ((w2.setCell ⟨w.heap.size + 1 + 1, 0, none⟩ (.slice au (n' - x) cu)).setCell ⟨w.heap.size + 1 + 1, 1, none⟩ (.int .i64 ((cc : Int) + (x : Int)))) := (HU0.out.tr HU2.out).set2 (by omega)
  refine ⟨_, x, rfl, ?_⟩
  generalize (w2.setCell ⟨w.heap.size + 1 + 1, 0, none⟩ (.slice au (n' - x) cu)).setCell ⟨w.heap.size + 1 + 1, 1, none⟩ (.int .i64 ((cc : Int) + (x : Int))) = wf at hs3 hUf ⊢
  rw [← hcI]
  exact times_of HC.out (Nat.le_trans le' (by omega)) (by rw [HV.out, HE.out.1, HE.out.2]) q1 q2 hs3 q4 (Up.refl _) hUf rfl

set_option maxRecDepth 20000 in
set_option maxHeartbeats 1000000 in
theorem sizeBits_any (v : Value) (n : Nat) (f : Nat → Nat) (w : World) (hv : Sl .u32 w v n f) (hf : ∀ i, i < n → f i < 4294967296) (hn : n ≤ 100000000000000000) :
    Calls Tryd.prog 109 #[v] w fun e w' => e = .returned (.int .i64 (bitLen (num 4294967296 f n))) ∧ w' = w := by
  have K := bits_any v n f w hv hf hn
  obtain ⟨ao, cap, rfl, -⟩ := id hv
  go_enter Tryd.func109, Tryd.ntmps109
  go_wp2_with (go_at_call 125; refine K.mono ?_; rintro e w1 ⟨rfl, hw⟩; replace hw := hw.symm; subst hw)
  go_ret
  exact ⟨rfl, rfl⟩

set_option maxRecDepth 20000 in
set_option maxHeartbeats 4000000 in
theorem isOver_any (a : Value) (h c M limit : Nat) (w : World) (ha : HdD h c M w a) (hM : M ≤ 1000000000) (hc : c ≤ 10000000000000) (hl : limit ≤ 1000000000) :
    Calls Tryd.prog 92 #[a, .int .i64 (limit : Int)] w fun e w' => e = .returned (.bool (decide (limit < 32 * c + bitLen h))) ∧ Up w w' := by
  obtain ⟨v, n, g, rfl, s, k, e, l⟩ := ha
  obtain ⟨ao, cap, rfl, -⟩ := id s
  obtain ⟨q, hq⟩ : ∃ q, q = limit / 32 := ⟨_, rfl⟩
  have hqI : (limit : Int) / 32 = (q : Int) := by omega
  have hwq : IntKind.i64.wrap (q : Int) = (q : Int) := by
    simp only [IntKind.wrap, IntKind.bits, IntKind.signed]
    simp
    omega
  have W1 : (w.alloc (.cells #[.slice ao n cap, .int .i64 (c : Int)] 96)).cell? ⟨w.heap.size, 0, none⟩ = some (.slice ao n cap) ∧ (w.alloc (.cells #[.slice ao n cap, .int .i64 (c : Int)] 96)).cell? ⟨w.heap.size, 1, none⟩ = some (.int .i64 (c : Int)) := by
    obtain ⟨r0, r1, _⟩ := cells2 (heap_alloc_new w (.cells #[.slice ao n cap, .int .i64 (c : Int)] 96))
    exact ⟨r0, r1⟩
  by_cases hcq : q < c
  · have g1 : decide ((q : Int) < (c : Int)) = true := decide_eq_true (by omega)
    have g3 : decide (q < c) = true := decide_eq_true hcq
    have g2 : (q : Int) < (c : Int) := by omega
    rw [show decide (limit < 32 * c + bitLen h) = true from decide_eq_true (by omega)]
    clear s hq hcq
    go_enter Tryd.func92, Tryd.ntmps92
    go_wp2
    go_quiet (fail)
    go_wp2
    go_ret
    exact ⟨rfl, (up_alloc _ _).tr (up_drewN _ _)⟩
  · have g1 : decide ((q : Int) < (c : Int)) = false := decide_eq_false (by omega)
    have g3 : decide (q < c) = false := decide_eq_false hcq
    have g2 : ¬ (q : Int) < (c : Int) := by omega
    obtain ⟨r, hr⟩ : ∃ r, r + 32 * c = limit := ⟨limit - 32 * c, by omega⟩
    have hrI : (limit : Int) - (c : Int) * 32 = (r : Int) := by omega
    have hcw : IntKind.i64.wrap ((c : Int) * 32) = (c : Int) * 32 := by
      simp only [IntKind.wrap, IntKind.bits, IntKind.signed]
      simp
      omega
    have hrw : IntKind.i64.wrap (r : Int) = (r : Int) := by
      simp only [IntKind.wrap, IntKind.bits, IntKind.signed]
      simp
      omega
    have KB := fun w1 (u : Up w w1) => sizeBits_any (.slice ao n cap) n g w1 (s.up u) k.1 (by omega)
    rw [e] at KB
    have hd : decide (limit < 32 * c + bitLen h) = decide (r < bitLen h) := by
      by_cases h5 : r < bitLen h
      · rw [decide_eq_true (by omega), decide_eq_true (by omega)]
      · rw [decide_eq_false (by omega), decide_eq_false (by omega)]
    rw [hd]
    generalize bitLen h = bl at *
    have HKB := hide KB
    clear s KB hd hr hq hcq
    go_enter Tryd.func92, Tryd.ntmps92
    go_wp2
    go_quiet ((go_at_call 109; exact Calls.quiet_of_same (HKB.out _ ((up_alloc _ _).tr (up_drewN _ _)))))
    go_wp2
    go_ret
    exact ⟨rfl, (up_alloc _ _).tr (up_drewN _ _)⟩

end Go.Proofs.YtjbocfhmfidjjaaDoor
