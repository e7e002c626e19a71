/-
  What is proved here: pairs that go round, as the statement ValueRounds lays them.
-/
import Derived.Test.YtenkidbimhmkbaaVRing
import Derived.Test.YtenkidbimhmkbaaVSt
import Derived.Test.YtenkidbimhmkbaaVList
namespace Go.Proofs.Ytenkidbimhmkbaa
open Go Go.RowKit

/-- k pairs from the index n on, each behind the one before it; the first one's cdr is e. -/
structure RingAt (f : Nat → Nat) (st : Nat → Bool) (n k e : Nat) : Prop where
  hd : ∀ i, i < k → f (n + 3 * i) = hOf 1 2 0
  is : ∀ i, i < k → st (n + 3 * i) = true
  car : ∀ i, i < k → f (n + 3 * i + 1) = 5
  fst : f (n + 2) = e
  cdr : ∀ i, i + 1 < k → f (n + 3 * (i + 1) + 2) = 4 * (n + 3 * i)

theorem ptr_of {st : Nat → Bool} {q : Nat} (h : st q = true) : isPtr st (4 * q) = true := by
  unfold isPtr
  rw [show 4 * q / 4 = q by omega, h, show 4 * q % 4 = 0 by omega]
  rfl
theorem may_at {st : Nat → Bool} {x : Nat} (h : isPtr st x = true) : may st x = true := by
  unfold may
  rw [h, Bool.or_true]
theorem consF_head (f : Nat → Nat) (n a b : Nat) : consF f n a b n = hOf 1 2 0 := tagF_head _ _ _ _ _
theorem consF_car (f : Nat → Nat) (n a b : Nat) : consF f n a b (n + 1) = a := by
  unfold consF tagF
  rw [if_pos (by omega), Nat.sub_self]
  rfl
theorem consF_cdr (f : Nat → Nat) (n a b : Nat) : consF f n a b (n + 2) = b := by
  unfold consF tagF
  rw [if_pos (by omega), show n + 2 - (n + 1) = 1 by omega]
  rfl
theorem consF_old {f : Nat → Nat} {n a b j : Nat} (h : j < n) : consF f n a b j = f j := by
  unfold consF tagF
  rw [if_neg (by omega), laid_old h]

/-- The words below n are as they were. -/
def Olds (f : Nat → Nat) (st : Nat → Bool) (f' : Nat → Nat) (st' : Nat → Bool) (n : Nat) : Prop := ∀ j, j < n → f' j = f j ∧ (st j = true → st' j = true)
theorem Olds.trans {f f' f'' : Nat → Nat} {st st' st'' : Nat → Bool} {n m : Nat} (h : Olds f st f' st' n) (h' : Olds f' st' f'' st'' m) (hm : n ≤ m) : Olds f st f'' st'' n := fun j hj => ⟨(h' j (by omega)).1.trans (h j hj).1, fun e => (h' j (by omega)).2 ((h j hj).2 e)⟩
theorem olds_cons (f : Nat → Nat) (st : Nat → Bool) (n a b : Nat) : Olds f st (consF f n a b) (also st n) n := fun j hj => ⟨consF_old hj, fun e => by simp [also, e]⟩
theorem olds_upd (f : Nat → Nat) (st : Nat → Bool) (n i x : Nat) (h : n ≤ i) : Olds f st (upd f i x) st n := fun j hj => ⟨upd_other (by omega), fun e => e⟩
theorem RingAt.later {f f' : Nat → Nat} {st st' : Nat → Bool} {n k e m : Nat} (h : RingAt f st n k e) (h1 : 1 ≤ k) (ho : Olds f st f' st' m) (hm : n + 3 * k ≤ m) : RingAt f' st' n k e :=
  ⟨fun i hi => (ho _ (by omega)).1.trans (h.hd i hi), fun i hi => (ho _ (by omega)).2 (h.is i hi), fun i hi => (ho _ (by omega)).1.trans (h.car i hi), (ho _ (by omega)).1.trans h.fst, fun i hi => (ho _ (by omega)).1.trans (h.cdr i hi)⟩
theorem RingAt.one (f : Nat → Nat) (st : Nat → Bool) (n e : Nat) : RingAt (consF f n 5 e) (also st n) n 1 e :=
  ⟨fun i hi => by rw [show i = 0 by omega]; exact consF_head _ _ _ _, fun i hi => by rw [show i = 0 by omega]; exact also_new _ _, fun i hi => by rw [show i = 0 by omega]; exact consF_car _ _ _ _, consF_cdr _ _ _ _, fun i hi => by omega⟩
theorem RingAt.snoc {f : Nat → Nat} {st : Nat → Bool} {n k e m p : Nat} (h : RingAt f st n (k + 1) e) (hm : m = n + 3 * (k + 1)) (hp : p = 4 * (n + 3 * k)) : RingAt (consF f m 5 p) (also st m) n (k + 2) e := by
  subst hm hp
  have ho := olds_cons f st (n + 3 * (k + 1)) 5 (4 * (n + 3 * k))
  have h2 := h.later (by omega) ho (Nat.le_refl _)
  refine ⟨fun i hi => ?_, fun i hi => ?_, fun i hi => ?_, h2.fst, fun i hi => ?_⟩
  · rcases (show i < k + 1 ∨ i = k + 1 by omega) with e | e
    · exact h2.hd i e
    · rw [e]; exact consF_head _ _ _ _
  · rcases (show i < k + 1 ∨ i = k + 1 by omega) with e | e
    · exact h2.is i e
    · rw [e]; exact also_new _ _
  · rcases (show i < k + 1 ∨ i = k + 1 by omega) with e | e
    · exact h2.car i e
    · rw [e]; exact consF_car _ _ _ _
  · rcases (show i + 1 < k + 1 ∨ i = k by omega) with e | e
    · exact h2.cdr i e
    · rw [e]; exact consF_cdr _ _ _ _
theorem RingAt.closed {f : Nat → Nat} {st : Nat → Bool} {n k e : Nat} (h : RingAt f st n k e) (e' : Nat) : RingAt (upd f (n + 2) e') st n k e' :=
  ⟨fun i hi => (upd_other (by omega)).trans (h.hd i hi), h.is, fun i hi => (upd_other (by omega)).trans (h.car i hi), upd_same _ _ _, fun i hi => (upd_other (by omega)).trans (h.cdr i hi)⟩
theorem RingAt.ptr {f : Nat → Nat} {st : Nat → Bool} {n k e i : Nat} (h : RingAt f st n k e) (hi : i < k) : isPtr st (4 * (n + 3 * i)) = true := ptr_of (h.is i hi)
theorem RingAt.head {f : Nat → Nat} {st : Nat → Bool} {n k e i : Nat} (h : RingAt f st n k e) (hi : i < k) : headOf f st (4 * (n + 3 * i)) = hOf 1 2 0 := by
  rw [headOf_yes (h.ptr hi), show 4 * (n + 3 * i) / 4 = n + 3 * i by omega, h.hd i hi]
theorem RingAt.field {f : Nat → Nat} {st : Nat → Bool} {n k e i j : Nat} (h : RingAt f st n k e) (hi : i < k) (hj : j < 2) : fieldAt f st (4 * (n + 3 * i)) j = f (n + 3 * i + 1 + j) := by
  unfold fieldAt
  rw [h.head hi, if_pos (by rw [hTag_of (by decide) (by decide)]; exact hj), show 4 * (n + 3 * i) / 4 = n + 3 * i by omega]

/-- The words of a ring, as one goes. -/
def ringU (n k : Nat) (i : Nat) : Nat := 4 * (n + 3 * (k - 1 - i % k))
theorem ring_goes {f : Nat → Nat} {st : Nat → Bool} {n k : Nat} (h : RingAt f st n k (4 * (n + 3 * (k - 1)))) (hk : 1 ≤ k) (hn : n + 3 * k ≤ 1000) (K : Nat) : Goes f st (ringU n k) K := by
  have hm : ∀ i, i % k < k := fun i => Nat.mod_lt _ (by omega)
  have hs : ∀ i, (i + 1) % k = if i % k + 1 = k then 0 else i % k + 1 := fun i => by
    rw [Nat.add_mod]
    by_cases h1 : k = 1
    · subst h1; simp [Nat.mod_one]
    · rw [Nat.mod_eq_of_lt (show 1 < k by omega)]
      split
      · rename_i e; rw [e, Nat.mod_self]
      · exact Nat.mod_eq_of_lt (by have := hm i; omega)
  refine ⟨fun i _ => ?_, fun i _ => ?_, fun i _ => ?_, fun i => ?_⟩
  · have := hm i
    unfold ringU
    rw [h.head (by omega)]
    decide
  · have := hm i
    unfold ringU
    rw [h.field (by omega) (by decide)]
    exact h.car _ (by omega)
  · have := hm i
    unfold ringU
    rw [h.field (by omega) (by decide), hs i]
    split
    · rename_i e
      rw [show k - 1 - i % k = 0 by omega]
      exact h.fst
    · rename_i e
      obtain ⟨j, hj⟩ : ∃ j, k - 1 - i % k = j + 1 := ⟨k - 1 - i % k - 1, by omega⟩
      rw [hj, show k - 1 - (i % k + 1) = j by omega]
      exact h.cdr j (by omega)
  · have := hm i
    unfold ringU
    omega

set_option maxRecDepth 20000 in
set_option maxHeartbeats 4000000 in
theorem ring_any (w w0 : World) (sb hb : Nat) (X : Nat → Prop) (n : Nat) (f : Nat → Nat) (st : Nat → Bool) (l : Nat) (h : St w w0 sb hb X 1000 n f st) (hl1 : 1 ≤ l) (hl2 : l ≤ 20) (hn1 : 1 ≤ n) (hn2 : n + 3 * l ≤ 1000) (p : Nat) (hp : p = 4 * (n + 3 * (l - 1))) :
    Calls Try.prog 42 #[.pointer (some ⟨sb, 0, none⟩), .int .i64 (l : Int)] w0 fun e w' => e = .returned (.int .u64 (p : Int)) ∧ ∃ X2 f2 st2, St w w' sb hb X2 1000 (n + 3 * l) f2 st2 ∧ RingAt f2 st2 n l p ∧ Olds f st f2 st2 n := by
  obtain ⟨q, hq⟩ : ∃ q, q = 4 * n := ⟨_, rfl⟩
  have K0 := cons_yes w0 sb hb X 1000 0 n f st 5 10 h.H h.S h.sX (by decide) (by decide) (by simp [may]) (by simp [may]) (by omega)
  rw [← hq] at K0
  have HK0 := hide K0
  have HS0 := hide h
  have HP := hide hp
  have HQ := hide hq
  clear K0 h hp hq
  go_enter Try.func42, Try.ntmps42
  go_wp2_with (go_at_call 82; refine HK0.out.mono ?_; rintro e w1 ⟨rfl, X1, H1, G1, F1⟩; have HS1 := hide (HS0.out.turn H1 G1 F1); clear H1 G1 F1)
  go_loopw [7, 8] (fun a7 a8 wr => ∃ k : Nat, ∃ Xk fk stk, ∃ pk : Nat, k + 1 ≤ l ∧ a7 = .int .u64 (pk : Int) ∧ a8 = .int .i64 ((k + 1 : Nat) : Int) ∧ pk = 4 * (n + 3 * k) ∧ St w wr sb hb Xk 1000 (n + 3 * (k + 1)) fk stk ∧ RingAt fk stk n (k + 1) 10 ∧ Olds f st fk stk n) (fun _ a8 _ => l - (intOf a8).toNat)
  case atStart => exact ⟨0, X1, _, _, q, hl1, rfl, rfl, by have := HQ.out; omega, HS1.out, RingAt.one _ _ _ _, olds_cons _ _ _ _ _⟩
  case round =>
    obtain ⟨k, Xk, fk, stk, pk, hk, rfl, rfl, hpk, hSk, hRk, hOk⟩ := hrel
    obtain ⟨m, hm⟩ : ∃ m, m = k + 1 := ⟨_, rfl⟩
    rw [← hm]
    by_cases hlt : k + 1 < l
    · obtain ⟨p2, hp2⟩ : ∃ p2, p2 = 4 * (n + 3 * (k + 1)) := ⟨_, rfl⟩
      have KC := cons_yes wr sb hb Xk 1000 0 (n + 3 * (k + 1)) fk stk 5 pk hSk.H hSk.S hSk.sX (by decide) (by omega) (by simp [may]) (by rw [hpk]; exact may_at (hRk.ptr (by omega))) (by omega)
      rw [← hp2] at KC
      have hmI : (m : Int) < (l : Int) := by omega
      have HKC := hide KC
      have HSk := hide hSk
      have HRk := hide hRk
      have HOk := hide hOk
      have HPk := hide hpk
      have HP2 := hide hp2
      clear KC hSk hRk hOk hpk hp2
      go_wp2_with (go_at_call 82; refine HKC.out.mono ?_; rintro e w2 ⟨rfl, X2, H2, G2, F2⟩; have HS2 := hide (HSk.out.turn H2 G2 F2); clear H2 G2 F2)
      refine ⟨⟨k + 1, X2, _, _, p2, by omega, rfl, by go_num, HP2.out, ?_, HRk.out.snoc rfl HPk.out, HOk.out.trans (olds_cons _ _ _ _ _) (by omega)⟩, ?_⟩
      · exact HS2.out
      · simp [intOf]
        omega
    · have hml : m = l := by omega
      have KS := set_yes wr hb Xk 1000 0 (n + 3 * (k + 1)) fk stk q 1 pk hSk.H (by have := HQ.out; omega) (by omega) (by rw [HQ.out]; exact hRk.ptr (i := 0) (by omega)) (by rw [show q / 4 = n by have := HQ.out; omega, show fk n = _ from hRk.hd 0 (by omega), hTag_of (by decide) (by decide)]; decide) (by rw [hpk]; exact may_at (hRk.ptr (by omega)))
      rw [show q / 4 + 1 + 1 = n + 2 by have := HQ.out; omega] at KS
      have s0 := hSk.S
      have hmI : ¬ ((m : Int) < (l : Int)) := by omega
      have HKS := hide KS
      have HSk := hide hSk
      have HRk := hide hRk
      have HOk := hide hOk
      have HPk := hide hpk
      clear KS hSk hRk hOk hpk
      go_wp2_with (go_at_call 83; refine HKS.out.mono ?_; rintro e w2 ⟨rfl, H2, F2⟩; have HS2 := hide (HSk.out.turn H2 (fun k hk => .inl hk) F2); clear H2 F2)
      go_ret
      have hpp : pk = p := by have := HPk.out; have := HP.out; omega
      refine ⟨by rw [hpp]; rfl, Xk, upd fk (n + 2) pk, stk, ?_, ?_, HOk.out.trans (olds_upd _ _ _ _ pk (Nat.le_add_right n 2)) (Nat.le_refl _)⟩
      · have := HS2.out
        rw [show k + 1 = l by omega] at this
        exact this
      · have := HRk.out.closed pk
        rw [show k + 1 = l by omega] at this
        rw [← hpp]
        exact this

end Go.Proofs.Ytenkidbimhmkbaa
