/-
  What is proved here: the statement ValueRounds' walk.
-/
import Derived.Test.YtenkidbimhmkbaaVRingW
import Derived.Test.YtenkidbimhmkbaaVAwake
namespace Go.Proofs.Ytenkidbimhmkbaa
open Go Go.RowKit

/-- The words of a list of three, as one goes. -/
def listU (n : Nat) (i : Nat) : Nat := if i < 3 then 4 * (n + 3 * (2 - i)) else 10
theorem list_goes {f : Nat → Nat} {st : Nat → Bool} {n : Nat} (h : RingAt f st n 3 10) (hn : n ≤ 1000) : Goes f st (listU n) 3 := by
  refine ⟨fun i hi => ?_, fun i hi => ?_, fun i hi => ?_, fun i => ?_⟩
  · unfold listU
    rw [if_pos hi, h.head (by omega)]
    decide
  · unfold listU
    rw [if_pos hi, h.field (by omega) (by decide)]
    exact h.car _ (by omega)
  · unfold listU
    rw [if_pos hi, h.field (by omega) (by decide)]
    rcases (show i = 0 ∨ i = 1 ∨ i = 2 by omega) with e | e | e <;> subst e
    · exact h.cdr 1 (by omega)
    · exact h.cdr 0 (by omega)
    · exact h.fst
  · unfold listU
    split <;> omega
theorem ring3 (f : Nat → Nat) (st : Nat → Bool) (n : Nat) : RingAt (chainF f n 10 (fun _ => 5) 3) (chainSt st n 3) n 3 10 :=
  ((RingAt.one f st n 10).snoc (m := n + 3 * 1) (p := 4 * (n + 3 * 0)) rfl rfl).snoc (m := n + 3 * 2) (p := 4 * (n + 3 * 1)) rfl rfl
theorem olds3 (f : Nat → Nat) (st : Nat → Bool) (n : Nat) : Olds f st (chainF f n 10 (fun _ => 5) 3) (chainSt st n 3) n :=
  ((olds_cons f st n 5 10).trans (olds_cons _ _ (n + 3 * 1) 5 (4 * (n + 3 * 0))) (by omega)).trans (olds_cons _ _ (n + 3 * 2) 5 (4 * (n + 3 * 1))) (by omega)

/-- What goes round is told from a list of three. -/
theorem equal_list (w : World) (cb sb hb : Nat) (X : Nat → Prop) (sz : Nat) (tm : Int) (n : Nat) (f : Nat → Nat) (st : Nat → Bool) (u v : Nat → Nat) (h : HeapAt w hb X sz tm n f st) (hS : w.cell? ⟨sb, 0, none⟩ = some (.pointer (some ⟨hb, 0, none⟩))) (hcX : ¬ X cb) (hcs : cb ≠ sb) (K : Nat) (hK : 4 ≤ K) (hu : Goes f st u K) (hv : Goes f st v 3) (hne : ∀ i j, u i ≠ v j) (hend : shapeB (headOf f st (v 3)) 1 2 0 = false) :
    ∀ t : Nat, t ≤ 3 → EqSays w cb sb ((2 * (3 - t) : Nat) : Int) (u (3 - t)) (v (3 - t)) false 7
  | 0, _ => equal_diff w cb sb hb X sz tm n f st (u 3) (v 3) 6 h hS hcX hcs (hu.lt 3) (hv.lt 3) (hne 3 3) (hu.pair 3 (by omega)) hend (by decide) (by decide)
  | t + 1, ht => by
    obtain ⟨i, hi⟩ : ∃ i, i = 3 - (t + 1) := ⟨_, rfl⟩
    have K1 := equal_list w cb sb hb X sz tm n f st u v h hS hcX hcs K hK hu hv hne hend t (by omega)
    rw [← hi]
    rw [show 3 - t = i + 1 by omega] at K1
    refine equal_pairs w cb sb hb X sz tm n f st (u i) (v i) _ 7 false h hS hcX hcs (hu.lt i) (hv.lt i) (hne i i) (hu.pair i (by omega)) (hv.pair i (by omega)) (by omega) (by omega) ?_
    refine sameParts_t w cb sb hb X sz tm n f st (u i) (v i) 5 5 (u (i + 1)) (v (i + 1)) _ _ 7 h hS hcX hcs (hu.lt i) (hv.lt i) (shapeB_tag (hu.pair i (by omega))) (shapeB_tag (hv.pair i (by omega))) (hu.car i (by omega)) (hv.car i (by omega)) (hu.cdr i (by omega)) (hv.cdr i (by omega)) false (equal_same w cb sb _ 5 (by omega) (by omega)) ?_
    rw [show ((2 * (i + 1) : Nat) : Int) = ((2 * i : Nat) : Int) + 1 + 1 by omega] at K1
    exact K1

theorem cmp_new {w w1 : World} {sb hb : Nat} {X : Nat → Prop} {sz n : Nat} {f : Nat → Nat} {st : Nat → Bool} (h : St w w1 sb hb X sz n f st) : HeapAt (w1.alloc (.cells #[.pointer (some ⟨sb, 0, none⟩), .int .i64 0] 130)) hb X sz 0 n f st ∧ (w1.alloc (.cells #[.pointer (some ⟨sb, 0, none⟩), .int .i64 0] 130)).cell? ⟨sb, 0, none⟩ = some (.pointer (some ⟨hb, 0, none⟩)) ∧ ¬ X w1.heap.size ∧ w1.heap.size ≠ sb :=
  have h2 := h.fr ((Fr.refl _ w1).alloc (.cells #[.pointer (some ⟨sb, 0, none⟩), .int .i64 0] 130))
  ⟨h2.H, h2.S, fun e => by have := h.H.lt e; omega, Nat.ne_of_gt (World.block_lt_of_cell? _ _ h.S)⟩

theorem ringU_zero (n k : Nat) : ringU n k 0 = 4 * (n + 3 * (k - 1)) := by
  unfold ringU
  rw [Nat.zero_mod, Nat.sub_zero]

set_option maxRecDepth 20000 in
set_option maxHeartbeats 8000000 in
theorem valueRounds_walk (a b : Int) (w : World) (ha1 : -9223372036854775808 ≤ a) (ha2 : a ≤ 9223372036854775807) (hb1 : -9223372036854775808 ≤ b) (hb2 : b ≤ 9223372036854775807) :
    Calls Try.prog 9 #[.int .i64 a, .int .i64 b] w fun e w' => e = .returned (.bool true) ∧ Below w.heap.size w w' := by
  have KN := vnew_ok 1000 w (by decide) (by decide)
  have KP := fun w1 => place_any a 20 w1 (by decide) (by decide) ha1 ha2
  have KQ := fun w1 => place_any b 20 w1 (by decide) (by decide) hb1 hb2
  obtain ⟨k, hk⟩ : ∃ k, k = (a % ((20 : Nat) : Int)).toNat := ⟨_, rfl⟩
  obtain ⟨m, hm⟩ : ∃ m, m = (b % ((20 : Nat) : Int)).toNat := ⟨_, rfl⟩
  rw [← hk] at KP
  rw [← hm] at KQ
  have hk20 : k < 20 := by omega
  have hm20 : m < 20 := by omega
  obtain ⟨k1, hk1⟩ : ∃ k1, k1 = k + 1 := ⟨_, rfl⟩
  obtain ⟨m1, hm1⟩ : ∃ m1, m1 = m + 1 := ⟨_, rfl⟩
  have hkI : 1 + (k : Int) = (k1 : Int) := by omega
  have hmI : 1 + (m : Int) = (m1 : Int) := by omega
  obtain ⟨n2, hn2⟩ : ∃ n2, n2 = 1 + 3 * k1 := ⟨_, rfl⟩
  obtain ⟨n3, hn3⟩ : ∃ n3, n3 = n2 + 3 * m1 := ⟨_, rfl⟩
  obtain ⟨x, hx⟩ : ∃ x, x = 4 * (1 + 3 * (k1 - 1)) := ⟨_, rfl⟩
  obtain ⟨y, hy⟩ : ∃ y, y = 4 * (n2 + 3 * (m1 - 1)) := ⟨_, rfl⟩
  obtain ⟨z, hz⟩ : ∃ z, z = 4 * (n3 + 3 * 2) := ⟨_, rfl⟩
  have hu0 : ringU 1 k1 0 = x := by rw [ringU_zero, hx]
  have hv0 : ringU n2 m1 0 = y := by rw [ringU_zero, hy]
  have hl0 : listU n3 0 = z := by rw [hz]; rfl
  have hne : ∀ i j, ringU 1 k1 i ≠ ringU n2 m1 j := fun i j => by
    unfold ringU
    omega
  have hnl : ∀ i j, ringU 1 k1 i ≠ listU n3 j := fun i j => by
    unfold ringU listU
    split <;> omega
  have KR1 := fun (w1 : World) (sb hb : Nat) (X : Nat → Prop) (h : St w w1 sb hb X 1000 1 (fun _ => 0) (fun _ => false)) => ring_any w w1 sb hb X 1 _ _ k1 h (by omega) (by omega) (by decide) (by omega) x hx
  rw [← hn2] at KR1
  have KR2 := fun (w1 : World) (sb hb : Nat) (X : Nat → Prop) (f : Nat → Nat) (st : Nat → Bool) (h : St w w1 sb hb X 1000 n2 f st) => ring_any w w1 sb hb X n2 f st m1 h (by omega) (by omega) (by omega) (by omega) y hy
  rw [← hn3] at KR2
  have KT := fun (w1 : World) (sb hb : Nat) (X : Nat → Prop) (f : Nat → Nat) (st : Nat → Bool) (h : St w w1 sb hb X 1000 n3 f st) (R : RingAt f st 1 k1 x) => take_ring w1 sb hb X 1000 0 n3 f st (ringU 1 k1) _ _ h.H h.S (ring_goes (hx ▸ R) (by omega) (by omega) 20000).follows
  rw [hu0] at KT
  have KE := fun (w1 : World) (sb hb : Nat) (X : Nat → Prop) (f : Nat → Nat) (st : Nat → Bool) (h : St w w1 sb hb X 1000 n3 f st) (R : RingAt f st 1 k1 x) (Q : RingAt f st n2 m1 y) => equalS_over w1 sb (ringU 1 k1 0) (ringU n2 m1 0) false 20001 (by decide) (equal_rings _ w1.heap.size sb hb X 1000 0 n3 f st (ringU 1 k1) (ringU n2 m1) (cmp_new h).1 (cmp_new h).2.1 (cmp_new h).2.2.1 (cmp_new h).2.2.2 20000 (ring_goes (hx ▸ R) (by omega) (by omega) 20000) (ring_goes (hy ▸ Q) (by omega) (by omega) 20000) hne 20000 (Nat.le_refl _) 0 0 (by decide) (by decide))
  rw [hu0, hv0] at KE
  have KL := fun (w1 : World) (sb hb : Nat) (X : Nat → Prop) (f : Nat → Nat) (st : Nat → Bool) (g : Nat) (h : St w w1 sb hb X 1000 n3 f st) (hg : w1.heap[g]? = some (.cells #[.int .u64 5, .int .u64 5, .int .u64 5] 22 (0, 0))) (hgX : ¬ X g) => list_yes w1 sb hb X 1000 0 n3 f st (some ⟨g, 0, none⟩) 3 g 0 3 (fun _ => 5) h.H h.S h.sX (.inr ⟨3, rfl, by decide, (Array.getElem?_eq_some_iff.1 hg).1, fun i hi => by
    rw [Nat.zero_add, cell_of_row w1 _ i _ _ _ hg]
    rcases (show i = 0 ∨ i = 1 ∨ i = 2 by omega) with e | e | e <;> subst e <;> rfl⟩) hgX (fun _ => by decide) (fun _ => by simp [may]) (by omega)
  rw [show chainE n3 10 3 = z from hz.symm] at KL
  have KF := fun (w1 : World) (sb hb : Nat) (X : Nat → Prop) (f : Nat → Nat) (st : Nat → Bool) (h : St w w1 sb hb X 1000 (n3 + 3 * 3) f st) (R : RingAt f st 1 k1 x) (Q : RingAt f st n3 3 10) => equalS_end w1 sb (ringU 1 k1 0) (listU n3 0) false 7 (by decide) (equal_list _ w1.heap.size sb hb X 1000 0 (n3 + 3 * 3) f st (ringU 1 k1) (listU n3) (cmp_new h).1 (cmp_new h).2.1 (cmp_new h).2.2.1 (cmp_new h).2.2.2 20000 (by decide) (ring_goes (hx ▸ R) (by omega) (by omega) 20000) (list_goes Q (by omega)) hnl (by rw [show listU n3 3 = 10 from rfl, headOf_no (by simp [isPtr])]; decide) 3 (Nat.le_refl _))
  rw [hu0, hl0] at KF
  have KS := fun (w1 : World) (sb : Nat) => equalS_end w1 sb x x true 1 (by decide) (equal_same _ w1.heap.size sb 0 x (by decide) (by decide))
  have HN := hide KN
  have HP := hide KP
  have HQ := hide KQ
  have HR1 := hide KR1
  have HR2 := hide KR2
  have HT := hide KT
  have HE := hide KE
  have HL := hide KL
  have HFF := hide KF
  have HSS := hide KS
  have HN2 := hide hn2
  have HN3 := hide hn3
  clear KN KP KQ KR1 KR2 KT KE KL KF KS hk hm hk1 hm1 hn2 hn3 hx hy hz hu0 hv0 hl0 hne hnl
  go_enter Try.func9, Try.ntmps9
  go_wp2_with (first
    | (go_at_call 15; refine HN.out.mono ?_; rintro e w1 ⟨sb, hb, X1, mb, rfl, S1, M1, B1, s1, m1', F1⟩; have HS1 : Hid (St w w1 sb hb X1 1000 1 (fun _ => 0) (fun _ => false)) := hide ⟨S1.H, S1.cells.1, S1.sX, B1, F1⟩; clear S1 M1 B1 s1 m1' F1)
    | (go_at_call_of 29 (Value.int .i64 a); refine (HP.out _).mono ?_; rintro e wp ⟨rfl, hw⟩; replace hw := hw.symm; subst hw)
    | (go_at_call_of 29 (Value.int .i64 b); refine (HQ.out _).mono ?_; rintro e wp ⟨rfl, hw⟩; replace hw := hw.symm; subst hw)
    | (go_at_call 42; refine (HR2.out _ _ _ _ _ _ HS2.out).mono ?_; rintro e w3 ⟨rfl, X3, f3, st3, S3, R3, O3⟩; have HS3 := hide S3; have HR3 := hide R3; have HA3 : Hid (RingAt f3 st3 1 k1 x) := hide (HA2.out.later (by omega) O3 (by have := HN2.out; omega)); clear S3 R3 O3)
    | (go_at_call 42; refine (HR1.out _ _ _ _ HS1.out).mono ?_; rintro e w2 ⟨rfl, X2, f2, st2, S2, R2, O2⟩; have HS2 := hide S2; have HA2 := hide R2; clear S2 R2 O2)
    | (go_at_call 36; refine (HT.out _ _ _ _ _ _ HS3.out HA3.out).mono ?_; rintro e w4 ⟨rfl, F4⟩; have HS4 := hide (HS3.out.fr F4); clear F4)
    | (go_at_call 31; refine (HL.out _ _ _ _ _ _ w5.heap.size (HS5.out.fr ((Fr.refl _ w5).alloc _)) (heap_alloc_new w5 _) (fun e => by have := HS5.out.H.lt e; omega)).mono ?_; rintro e w6 ⟨rfl, X6, H6, G6, F6⟩; have HS6 := hide ((HS5.out.fr ((Fr.refl _ w5).alloc _)).turn H6 G6 F6); have HA6 := hide (HA3.out.later (by omega) (olds3 f3 st3 n3) (by have := HN2.out; have := HN3.out; omega)); clear H6 G6 F6)
    | (go_at_call_of 40 (Value.int .u64 (y : Int)); refine (HE.out _ _ _ _ _ _ (HS4.out.fr (Fr.same ((Fr.refl _ w4).alloc _) rfl rfl rfl rfl)) HA3.out HR3.out).mono ?_; rintro e w5 ⟨rfl, F5⟩; have HS5 := hide (HS4.out.fr (Fr.trans ((Fr.refl _ w4).alloc _) F5 (fun _ _ e => e))); clear F5)
    | (go_at_call_of 40 (Value.int .u64 (z : Int)); refine (HFF.out _ _ _ _ _ _ HS6.out HA6.out (ring3 f3 st3 n3)).mono ?_; rintro e w7 ⟨rfl, F7⟩; have HS7 := hide (HS6.out.fr F7); clear F7)
    | (go_at_call 40; refine (HSS.out _ _).mono ?_; rintro e w8 ⟨rfl, F8⟩; have HS8 := hide (HS7.out.fr F8); clear F8)
    | (go_at_call 14; refine (vawake_any _).mono ?_; rintro e wa ⟨rfl, Fa⟩))
  go_ret
  exact ⟨rfl, (Fr.trans HS8.out.F Fa (fun _ _ e => e)).below (Nat.le_refl _) (fun _ _ e => e)⟩

end Go.Proofs.Ytenkidbimhmkbaa
