/-
  What is proved here: which words stand for which number; Eqv of two such words: whether the numbers are the same. package value's Number: the word of a number that has at most 256 limbs; of a longer one there is none, and nothing is laid.
-/
import Derived.Test.YtchdfenickjiiaaVNumR
import Derived.Test.YtchdfenickjiiaaVEqvB
import Derived.Test.YtchdfenickjiiaaZB
import Derived.Test.YtchdfenickjiiaaVLayR
import Derived.Test.YtchdfenickjiiaaVDat
import Derived.Test.YtchdfenickjiiaaZC
namespace Go.Proofs.Ytchdfenickjiiaa
open Go Go.RowKit

/-- Object q of a heap of n words is the number of these limbs, with its sign s. -/
structure BigW (n : Nat) (f : Nat → Nat) (st : Nat → Bool) (q s : Nat) (g : Nat → Nat) (len : Nat) : Prop where
  lt : 4 * q < 18446744073709551616
  st : st q = true
  hd : f q = hOf 5 0 (1 + (len + 1) / 2)
  raw : ∀ i, i < 1 + (len + 1) / 2 → f (q + 1 + i) = numR s g len i
  end_ : q + 1 + (1 + (len + 1) / 2) ≤ n
  can : Can 4294967296 g len
  len : len ≤ 256

/-- Word x stands for Z. -/
def NumW (n : Nat) (f : Nat → Nat) (st : Nat → Bool) (x : Nat) (Z : Int) : Prop :=
  (x < 18446744073709551616 ∧ x % 4 = 1 ∧ intW x = Z) ∨ ∃ q sb g len, x = 4 * q ∧ BigW n f st q (if sb then 1 else 0) g len ∧ sgn sb (num 4294967296 g len) = Z ∧ ¬ (-2305843009213693952 ≤ Z ∧ Z < 2305843009213693952)

theorem NumW.old {n n' : Nat} {f f' : Nat → Nat} {st st' : Nat → Bool} {x : Nat} {Z : Int} (h : NumW n f st x Z) (ho : ∀ j, j < n → f' j = f j ∧ (st j = true → st' j = true)) (hn : n ≤ n') : NumW n' f' st' x Z := by
  rcases h with h | ⟨q, sb, g, len, rfl, h, h2, h3⟩
  · exact .inl h
  · refine .inr ⟨q, sb, g, len, rfl, ⟨h.lt, (ho q (by have := h.end_; omega)).2 h.st, (ho q (by have := h.end_; omega)).1.trans h.hd, fun i hi => (ho _ (by have := h.end_; omega)).1.trans (h.raw i hi), by have := h.end_; omega, h.can, h.len⟩, h2, h3⟩

theorem intW_in {x : Nat} (_h : x < 18446744073709551616) : -2305843009213693952 ≤ intW x ∧ intW x < 2305843009213693952 := by
  unfold intW wrap64
  omega
theorem intW_inj {x y : Nat} (hx : x < 18446744073709551616) (hy : y < 18446744073709551616) (h1 : x % 4 = 1) (h2 : y % 4 = 1) (h : intW x = intW y) : x = y := by
  unfold intW wrap64 at h
  omega

theorem pow64 (k : Nat) : 18446744073709551616 ^ k = 4294967296 ^ (2 * k) := by
  rw [Nat.pow_mul]
theorem words_even {g : Nat → Nat} {len : Nat} : ∀ k, 2 * k ≤ len → num 18446744073709551616 (wordU g len) k = num 4294967296 g (2 * k)
  | 0, _ => rfl
  | k + 1, h => by
    rw [num_succ, words_even k (by omega), show 2 * (k + 1) = 2 * k + 1 + 1 by omega, num_succ, num_succ, pow64]
    unfold wordU
    rw [if_pos (by omega), Nat.pow_succ, Nat.add_mul, Nat.mul_assoc (g (2 * k + 1)), Nat.mul_comm 4294967296, Nat.add_assoc]
/-- The words say what the limbs say. -/
theorem wordsU_num (g : Nat → Nat) (len : Nat) : num 18446744073709551616 (wordU g len) ((len + 1) / 2) = num 4294967296 g len := by
  by_cases h : len % 2 = 0
  · have := words_even (g := g) (len := len) (len / 2) (by omega)
    rw [show (len + 1) / 2 = len / 2 by omega, this, show 2 * (len / 2) = len by omega]
  · have := words_even (g := g) (len := len) (len / 2) (by omega)
    rw [show (len + 1) / 2 = len / 2 + 1 by omega, num_succ, this, pow64]
    conv => rhs; rw [show len = 2 * (len / 2) + 1 by omega, num_succ]
    unfold wordU
    rw [if_neg (by omega)]

theorem BigW.ptr {n : Nat} {f : Nat → Nat} {st : Nat → Bool} {q s : Nat} {g : Nat → Nat} {len : Nat} (h : BigW n f st q s g len) : isPtr st (4 * q) = true := by
  unfold isPtr
  rw [show 4 * q / 4 = q by omega, h.st, show 4 * q % 4 = 0 by omega]
  rfl
theorem BigW.head {n : Nat} {f : Nat → Nat} {st : Nat → Bool} {q s : Nat} {g : Nat → Nat} {len : Nat} (h : BigW n f st q s g len) : headOf f st (4 * q) = hOf 5 0 (1 + (len + 1) / 2) := by
  rw [headOf_yes h.ptr, show 4 * q / 4 = q by omega, h.hd]
theorem BigW.raws {n : Nat} {f : Nat → Nat} {st : Nat → Bool} {q s : Nat} {g : Nat → Nat} {len : Nat} (h : BigW n f st q s g len) : hRaw (headOf f st (4 * q)) = 1 + (len + 1) / 2 := by
  rw [h.head, hRaw_of (by decide) (by decide) (by have := h.len; omega)]
theorem BigW.rawAt {n : Nat} {f : Nat → Nat} {st : Nat → Bool} {q s : Nat} {g : Nat → Nat} {len i : Nat} (h : BigW n f st q s g len) (hi : i < 1 + (len + 1) / 2) : rawAt f st (4 * q) i = numR s g len i := by
  unfold Go.Proofs.Ytchdfenickjiiaa.rawAt
  rw [h.raws, if_pos hi, show 4 * q / 4 = q by omega, h.hd, hTag_of (by decide) (by decide), Nat.add_zero, h.raw i hi]

theorem sgn_abs (b : Bool) (x : Nat) : (sgn b x = (x : Int) ∧ b = false) ∨ (sgn b x = -(x : Int) ∧ b = true) := by
  cases b <;> simp [sgn]
theorem big_len {sb : Bool} {g : Nat → Nat} {len : Nat} (hc : Can 4294967296 g len) (h : ¬ (-2305843009213693952 ≤ sgn sb (num 4294967296 g len) ∧ sgn sb (num 4294967296 g len) < 2305843009213693952)) : 2 ≤ len := by
  rcases Nat.lt_or_ge len 2 with hl | hl
  · exfalso
    have h1 := num_lt hc.1
    have h2 : 4294967296 ^ len ≤ 4294967296 ^ 1 := Nat.pow_le_pow_right (by decide) (by omega)
    rw [Nat.pow_one] at h2
    rcases sgn_abs sb (num 4294967296 g len) with ⟨e, _⟩ | ⟨e, _⟩ <;> rw [e] at h <;> omega
  · exact hl
theorem BigW.at {n : Nat} {f : Nat → Nat} {st : Nat → Bool} {q : Nat} {sb : Bool} {g : Nat → Nat} {len : Nat} (h : BigW n f st q (if sb then 1 else 0) g len) (hz : ¬ (-2305843009213693952 ≤ sgn sb (num 4294967296 g len) ∧ sgn sb (num 4294967296 g len) < 2305843009213693952)) :
    BigAt f st (4 * q) (1 + (len + 1) / 2) (if sb then 1 else 0) (wordU g len ((len + 1) / 2 - 1)) := by
  have h2 := big_len h.can hz
  have hl := h.len
  refine ⟨h.head, by omega, by omega, by rw [h.rawAt (by omega)]; rfl, ?_, by cases sb <;> simp, ?_, ?_⟩
  · rw [h.rawAt (by omega)]
    unfold numR
    rw [if_neg (by omega), show 1 + (len + 1) / 2 - 1 - 1 = (len + 1) / 2 - 1 by omega]
  · rcases h.can.2 with e | e
    · omega
    · unfold wordU
      split
      · rename_i h3
        rw [show 2 * ((len + 1) / 2 - 1) + 1 = len - 1 by omega]
        omega
      · rw [show 2 * ((len + 1) / 2 - 1) = len - 1 by omega]
        exact e
  · by_cases h3 : 2 < len
    · exact .inl (by omega)
    · right
      have e2 : len = 2 := by omega
      subst e2
      have hw := wordsU_num g 2
      simp only [num_succ, num_zero, Nat.pow_zero, Nat.mul_one, Nat.zero_add, Nat.reduceAdd, Nat.reduceDiv] at hw
      have : wordU g 2 ((2 + 1) / 2 - 1) = num 4294967296 g 2 := by
        simp only [num_succ, num_zero, Nat.pow_zero, Nat.mul_one, Nat.zero_add, Nat.reduceAdd, Nat.reduceDiv, Nat.reduceSub]
        exact hw
      rw [this]
      rcases sgn_abs sb (num 4294967296 g 2) with ⟨e, e'⟩ | ⟨e, e'⟩ <;> rw [e] at hz <;> subst e' <;> simp <;> omega

theorem least_diff {a b : Nat → Nat} : ∀ N, (∀ i, i < N → b i = a i) ∨ ∃ d, d < N ∧ (∀ i, i < d → b i = a i) ∧ a d ≠ b d
  | 0 => .inl fun i hi => absurd hi (Nat.not_lt_zero i)
  | N + 1 => by
    rcases least_diff (a := a) (b := b) N with h | ⟨d, h1, h2, h3⟩
    · by_cases e : b N = a N
      · exact .inl fun i hi => by
          rcases Nat.lt_or_ge i N with h4 | h4
          · exact h i h4
          · rw [show i = N by omega]; exact e
      · exact .inr ⟨N, by omega, h, fun e' => e e'.symm⟩
    · exact .inr ⟨d, by omega, h2, h3⟩

theorem BigW.same {n : Nat} {f : Nat → Nat} {st : Nat → Bool} {q q' : Nat} {sb sb' : Bool} {g g' : Nat → Nat} {len len' : Nat} (h : BigW n f st q (if sb then 1 else 0) g len) (h' : BigW n f st q' (if sb' then 1 else 0) g' len')
    (hz : ¬ (-2305843009213693952 ≤ sgn sb (num 4294967296 g len) ∧ sgn sb (num 4294967296 g len) < 2305843009213693952)) (hz' : ¬ (-2305843009213693952 ≤ sgn sb' (num 4294967296 g' len') ∧ sgn sb' (num 4294967296 g' len') < 2305843009213693952)) (he : sgn sb (num 4294967296 g len) = sgn sb' (num 4294967296 g' len')) :
    sb = sb' ∧ len = len' ∧ ∀ i, i < 1 + (len + 1) / 2 → numR (if sb' then 1 else 0) g' len' i = numR (if sb then 1 else 0) g len i := by
  have l1 := big_len h.can hz
  have l2 := big_len h'.can hz'
  have es : sb = sb' := sgn_sign ⟨h.can, fun _ => by omega⟩ ⟨h'.can, fun _ => by omega⟩ he
  subst es
  have en := sgn_inj he
  obtain ⟨e1, e2⟩ := can_uniq (by decide) h.can h'.can en
  subst e1
  refine ⟨rfl, rfl, fun i hi => ?_⟩
  unfold numR wordU
  split
  · rfl
  · split
    · rw [e2 _ (by omega), e2 _ (by omega)]
    · rw [e2 _ (by omega)]
theorem BigW.diff {g g' : Nat → Nat} {sb sb' : Bool} {len len' : Nat} (hl : (len + 1) / 2 = (len' + 1) / 2) (hr : ∀ i, i < 1 + (len + 1) / 2 → numR (if sb' then 1 else 0) g' len' i = numR (if sb then 1 else 0) g len i) : sgn sb (num 4294967296 g len) = sgn sb' (num 4294967296 g' len') := by
  have h0 := hr 0 (by omega)
  have e0 : sb = sb' := by
    cases sb <;> cases sb' <;> simp [numR] at h0 <;> rfl
  subst e0
  rw [← wordsU_num g len, ← wordsU_num g' len', ← hl]
  congr 1
  refine num_congr fun i hi => ?_
  have := hr (i + 1) (by omega)
  unfold numR at this
  rw [if_neg (by omega), if_neg (by omega)] at this
  exact this.symm

set_option maxRecDepth 20000 in
set_option maxHeartbeats 2000000 in
theorem eqv_words (w : World) (sb x y : Nat) (h : x = y) :
    Calls Try.prog 25 #[.pointer (some ⟨sb, 0, none⟩), .int .u64 (x : Int), .int .u64 (y : Int)] w fun e w' => e = .returned (.bool true) ∧ ∃ q, w' = w.drewN q := by
  subst h
  go_enter Try.func25, Try.ntmps25
  go_wp2
  go_ret
  exact ⟨rfl, 0, rfl⟩

set_option maxRecDepth 20000 in
set_option maxHeartbeats 2000000 in
theorem eqv_off (w : World) (sb hb : Nat) (X : Nat → Prop) (sz : Nat) (tm : Int) (n : Nat) (f : Nat → Nat) (st : Nat → Bool) (x y : Nat) (r : Bool) (_h : HeapAt w hb X sz tm n f st) (_hS : w.cell? ⟨sb, 0, none⟩ = some (.pointer (some ⟨hb, 0, none⟩))) (hne : x ≠ y)
    (KX : ∀ q, Calls Try.prog 66 #[.pointer (some ⟨sb, 0, none⟩), .int .u64 (x : Int)] (w.drewN q) fun e w' => e = .returned (.bool r) ∧ ∃ q', w' = (w.drewN q).drewN q')
    (KY : r = true → ∀ q, Calls Try.prog 66 #[.pointer (some ⟨sb, 0, none⟩), .int .u64 (y : Int)] (w.drewN q) fun e w' => e = .returned (.bool false) ∧ ∃ q', w' = (w.drewN q).drewN q') :
    Calls Try.prog 25 #[.pointer (some ⟨sb, 0, none⟩), .int .u64 (x : Int), .int .u64 (y : Int)] w fun e w' => e = .returned (.bool false) ∧ ∃ q, w' = w.drewN q := by
  have hxy : ((x : Int) == (y : Int)) = false := by rw [beq_eq_false_iff_ne]; omega
  have HX := hide KX
  have HY := hide KY
  clear KX KY
  rcases r with _ | _
  · clear HY
    go_enter Try.func25, Try.ntmps25
    go_wp2_with (go_at_call 66; refine (HX.out 0).mono ?_; rintro e w1 ⟨rfl, q1, hq1⟩; replace hq1 : w1 = w.drewN q1 := (by rw [hq1]; simp); subst hq1)
    go_ret
    exact ⟨rfl, _, rfl⟩
  · have HY2 := hide (HY.out rfl)
    clear HY
    go_enter Try.func25, Try.ntmps25
    go_wp2_with (first
      | (go_at_call_of 66 (Value.int .u64 (x : Int)); refine (HX.out 0).mono ?_; rintro e w1 ⟨rfl, q1, hq1⟩; replace hq1 : w1 = w.drewN q1 := (by rw [hq1]; simp); subst hq1)
      | (go_at_call_of 66 (Value.int .u64 (y : Int)); refine (HY2.out _).mono ?_; rintro e w2 ⟨rfl, q2, hq2⟩; replace hq2 : w2 = w.drewN (q1 + q2) := (by rw [hq2]; simp); subst hq2))
    go_ret
    exact ⟨rfl, _, rfl⟩

theorem odd_head {f : Nat → Nat} {st : Nat → Bool} {x : Nat} (h : x % 4 = 1) : hKind (headOf f st x) ≠ 5 := by
  have : isPtr st x = false := by
    unfold isPtr
    rw [h]
    rfl
  rw [headOf_no this]
  decide

/-- Eqv of two numbers' words. -/
theorem eqv_num (w : World) (sb hb : Nat) (X : Nat → Prop) (sz : Nat) (tm : Int) (n : Nat) (f : Nat → Nat) (st : Nat → Bool) (x y : Nat) (Z Y : Int) (h : HeapAt w hb X sz tm n f st) (hS : w.cell? ⟨sb, 0, none⟩ = some (.pointer (some ⟨hb, 0, none⟩))) (hx : NumW n f st x Z) (hy : NumW n f st y Y) :
    Calls Try.prog 25 #[.pointer (some ⟨sb, 0, none⟩), .int .u64 (x : Int), .int .u64 (y : Int)] w fun e w' => e = .returned (.bool (decide (Z = Y))) ∧ ∃ q, w' = w.drewN q := by
  rcases hx with ⟨x1, x2, x3⟩ | ⟨q, s1, g, len, rfl, B1, z1, o1⟩
  · rcases hy with ⟨y1, y2, y3⟩ | ⟨q', s2, g', len', rfl, B2, z2, o2⟩
    · by_cases e : x = y
      · rw [show decide (Z = Y) = true from decide_eq_true (by rw [← x3, ← y3, e])]
        exact eqv_words w sb x y e
      · rw [show decide (Z = Y) = false from decide_eq_false (fun e2 => e (intW_inj x1 y1 x2 y2 (by rw [x3, y3, e2])))]
        exact eqv_off w sb hb X sz tm n f st x y false h hS e (fun k => isBig_no (w.drewN k) sb hb X sz tm n f st x (h.drewN k) hS x1 (odd_head x2)) (fun e => by cases e)
    · have hr := intW_in x1
      rw [x3] at hr
      rw [show decide (Z = Y) = false from decide_eq_false (fun e2 => o2 (by rw [← e2]; exact hr))]
      exact eqv_off w sb hb X sz tm n f st x _ false h hS (by omega) (fun k => isBig_no (w.drewN k) sb hb X sz tm n f st x (h.drewN k) hS x1 (odd_head x2)) (fun e => by cases e)
  · subst z1
    rcases hy with ⟨y1, y2, y3⟩ | ⟨q', s2, g', len', rfl, B2, z2, o2⟩
    · have hr := intW_in y1
      rw [y3] at hr
      rw [show decide (_ = Y) = false from decide_eq_false (fun e2 => o1 (by rw [e2]; exact hr))]
      exact eqv_off w sb hb X sz tm n f st _ y true h hS (by omega) (fun k => isBig_yes (w.drewN k) sb hb X sz tm n f st _ _ _ _ (h.drewN k) hS B1.lt (B1.at o1)) (fun _ k => isBig_no (w.drewN k) sb hb X sz tm n f st y (h.drewN k) hS y1 (odd_head y2))
    · subst z2
      by_cases e : 4 * q = 4 * q'
      · have eq : q = q' := by omega
        subst eq
        have hl : (len + 1) / 2 = (len' + 1) / 2 := by
          have := B1.raws.symm.trans B2.raws
          omega
        rw [show decide (_ = _) = true from decide_eq_true (BigW.diff hl (fun i hi => (B2.raw i (by omega)).symm.trans (B1.raw i hi)))]
        exact eqv_words w sb _ _ rfl
      · by_cases ez : sgn s1 (num 4294967296 g len) = sgn s2 (num 4294967296 g' len')
        · rw [show decide (_ = _) = true from decide_eq_true ez]
          obtain ⟨_, el, er⟩ := BigW.same B1 B2 o1 o2 ez
          refine eqv_big w sb hb X sz tm n f st _ _ _ _ _ _ _ _ true h hS B1.lt B2.lt e (B1.at o1) (B2.at o2) (fun k => sameRaws_yes (w.drewN k) sb hb X sz tm n f st _ _ (h.drewN k) hS B1.lt B2.lt (by rw [B1.raws, B2.raws, el]) (fun i hi => ?_))
          rw [B1.raws] at hi
          rw [B1.rawAt hi, B2.rawAt (by omega), er i hi]
        · rw [show decide (_ = _) = false from decide_eq_false ez]
          by_cases hl : (len + 1) / 2 = (len' + 1) / 2
          · rcases least_diff (a := numR (if s1 then 1 else 0) g len) (b := numR (if s2 then 1 else 0) g' len') (1 + (len + 1) / 2) with hd | ⟨d, d1, d2, d3⟩
            · exact absurd (BigW.diff hl hd) ez
            · refine eqv_big w sb hb X sz tm n f st _ _ _ _ _ _ _ _ false h hS B1.lt B2.lt e (B1.at o1) (B2.at o2) (fun k => sameRaws_at (w.drewN k) sb hb X sz tm n f st _ _ d (h.drewN k) hS B1.lt B2.lt (by rw [B1.raws, B2.raws, hl]) (by rw [B1.raws]; exact d1) (fun i hi => ?_) ?_)
              · rw [B1.rawAt (by omega), B2.rawAt (by omega), d2 i hi]
              · rw [B1.rawAt d1, B2.rawAt (by omega)]
                exact d3
          · exact eqv_big w sb hb X sz tm n f st _ _ _ _ _ _ _ _ false h hS B1.lt B2.lt e (B1.at o1) (B2.at o2) (fun k => sameRaws_len (w.drewN k) sb hb X sz tm n f st _ _ (h.drewN k) hS B1.lt B2.lt (by rw [B1.raws, B2.raws]; omega))

theorem Up.fr {w w' : World} (h : Up w w') : Fr (fun _ => False) w w' := ⟨h.os, h.tape, h.output, h.size, fun k hk _ => h.block k hk⟩
theorem Fr.up {w w' : World} (h : Fr (fun _ => False) w w') : Up w w' := ⟨h.os, h.tape, h.output, h.size, fun k hk => h.block k hk (fun e => e)⟩

theorem fixW_nat (z : Int) : ∃ x : Nat, fixW z = (x : Int) ∧ x < 18446744073709551616 := ⟨(fixW z).toNat, by unfold fixW; omega, by unfold fixW; omega⟩
theorem fixW_num {n : Nat} {f : Nat → Nat} {st : Nat → Bool} {z : Int} {x : Nat} (hx : fixW z = (x : Int)) (h1 : -2305843009213693952 ≤ z) (h2 : z < 2305843009213693952) : NumW n f st x z := by
  unfold fixW at hx
  refine .inl ⟨by omega, by omega, ?_⟩
  unfold intW wrap64
  omega

/-- What is left behind Number: the word x stands for Z. -/
structure Numb (w : World) (hb : Nat) (X : Nat → Prop) (sz : Nat) (tm : Int) (n : Nat) (f : Nat → Nat) (st : Nat → Bool) (Z : Int) (x : Nat) (w' : World) (X' : Nat → Prop) (n' : Nat) (f' : Nat → Nat) (st' : Nat → Bool) : Prop where
  H : HeapAt w' hb X' sz tm n' f' st'
  G : Grows w.heap.size X X'
  F : Fr X w w'
  N : NumW n' f' st' x Z
  olds : ∀ j, j < n → f' j = f j ∧ (st j = true → st' j = true)
  le : n ≤ n'
  most : n' ≤ n + 130
  small : decide (n' = n) = smallB Z

set_option maxRecDepth 20000 in
set_option maxHeartbeats 4000000 in
theorem number_small (w : World) (sb hb : Nat) (X : Nat → Prop) (sz : Nat) (tm : Int) (n : Nat) (f : Nat → Nat) (st : Nat → Bool) (a : Value) (M : Nat) (Z : Int) (h : HeapAt w hb X sz tm n f st) (ha : RdD Z M w a) (hz : -2305843009213693952 ≤ Z ∧ Z < 2305843009213693952) :
    Calls Try.prog 21 #[.pointer (some ⟨sb, 0, none⟩), a] w fun e w' => ∃ (x : Nat) (X' : Nat → Prop) (n' : Nat) (f' : Nat → Nat) (st' : Nat → Bool), e = .returned (.tuple #[.int .u64 (x : Int), .bool true]) ∧ Numb w hb X sz tm n f st Z x w' X' n' f' st' := by
  obtain ⟨b, m, g, hm, hd, hM, hZ⟩ := ha
  obtain ⟨v, rfl, hv⟩ := hm
  obtain ⟨ao, cap, rfl, -⟩ := id hv
  have KS := fun w1 (u : Up w w1) => small_z (.agg #[.bool b, .slice ao m cap]) b m g Z w1 ⟨_, rfl, hv.up u⟩ hd hZ
  rw [(small_in hz).1, (small_in hz).2] at KS
  have KF := fun w1 => vfix_yes Z w1 hz.1 (by omega)
  obtain ⟨x, hx, hxl⟩ := fixW_nat Z
  rw [hx] at KF
  have HKS := hide KS
  have HKF := hide KF
  have HH := hide h
  have HX := hide hx
  have HZ := hide hz
  clear KS KF hv hd hZ h hx hz
  go_enter Try.func21, Try.ntmps21
  go_wp2_with (first
    | (go_at_call 61; refine (HKS.out _ (up_alloc _ _)).mono ?_; rintro e w1 ⟨rfl, u1⟩)
    | (go_at_call 10; refine (HKF.out _).mono ?_; rintro e w2 ⟨rfl, hw⟩; replace hw := hw.symm; subst hw))
  go_ret2
  have F1 : Fr (fun _ => False) w w1 := ((up_alloc w _).tr u1).fr
  exact ⟨x, X, n, f, st, rfl, HH.out.fr F1 (fun _ _ e => e), Grows.refl _ _, F1.mono (fun _ _ e => e.elim), fixW_num HX.out HZ.out.1 HZ.out.2, fun j _ => ⟨rfl, fun e => e⟩, Nat.le_refl _, by omega, by rw [(small_in HZ.out).2]; simp⟩

set_option maxRecDepth 20000 in
set_option maxHeartbeats 4000000 in
theorem number_far (w : World) (sb hb : Nat) (X : Nat → Prop) (sz : Nat) (tm : Int) (n : Nat) (f : Nat → Nat) (st : Nat → Bool) (a : Value) (M : Nat) (Z : Int) (h : HeapAt w hb X sz tm n f st) (ha : RdD Z M w a) (hM4 : 4 * (M + 1) ≤ 281474976710656) (hz : ¬ (-2305843009213693952 ≤ Z ∧ Z < 2305843009213693952))
    (hl : ∀ b g len, CanZ b g len → sgn b (num 4294967296 g len) = Z → 256 < len) :
    Calls Try.prog 21 #[.pointer (some ⟨sb, 0, none⟩), a] w fun e w' => e = .returned (.tuple #[.int .u64 0, .bool false]) ∧ HeapAt w' hb X sz tm n f st ∧ Fr (fun _ => False) w w' := by
  obtain ⟨b, m, g, hm, hd, hM, hZ⟩ := ha
  obtain ⟨v, rfl, hv⟩ := hm
  obtain ⟨ao, cap, rfl, -⟩ := id hv
  have KS := fun w1 (u : Up w w1) => small_z (.agg #[.bool b, .slice ao m cap]) b m g Z w1 ⟨_, rfl, hv.up u⟩ hd hZ
  rw [(small_out hz).1, (small_out hz).2] at KS
  have KA := fun (gg : Nat) (w1 : World) (u : Up w w1) (hg : w1.heap[gg]? = some (Obj.cells #[.bool b, .slice ao m cap] 45 (0, 0))) => add1_rd (M := M) hg ⟨b, m, g, ⟨_, rfl, hv.up u⟩, hd, hM, hZ⟩ hM4
  have HKS := hide KS
  have HKA := hide KA
  have HH := hide h
  have HL := hide hl
  clear KS KA hv hd hZ h hz hl
  go_enter Try.func21, Try.ntmps21
  go_wp2_with (first
    | (go_at_call 61; refine (HKS.out _ (up_alloc _ _)).mono ?_; rintro e w1 ⟨rfl, u1⟩; have bx : w1.heap[w.heap.size]? = some (.cells #[.bool b, .slice ao m cap] 45 (0, 0)) := (u1.blk (heap_alloc_new w _)); obtain ⟨z0, z1, d0, d1⟩ := fz2 bx; have HU1 : Hid (Up w w1) := hide ((up_alloc w _).tr u1); have HBX := hide bx; clear u1 bx)
    | (go_at_call 62; refine (HKA.out _ _ (HU1.out.tr (up_alloc _ _)) (heap_alloc_new w1 _)).mono ?_; rintro e w2 ⟨vn, rfl, hn, u2⟩; have HU2 : Hid (Up w1 w2) := hide ((up_alloc w1 _).tr u2); have HN := hide hn; clear hn u2; obtain ⟨bn, nn, fn, ⟨vs, rfl, os⟩, cn, ln, sn⟩ := HN.out; obtain ⟨an, cpn, rfl, hs1, hs2, hs3, hs4⟩ := os.sl; have hlen := HL.out _ _ _ cn sn; clear HN os cn ln sn hs3 hs4; have bx2 := HU2.out.blk HBX.out; clear z0 z1 d0 d1; obtain ⟨z0, z1, d0, d1⟩ := fz2 bx2; have HBX2 := hide bx2; clear bx2))
  go_ret2
  obtain ⟨b4, F4⟩ := stoF2 HBX2.out (.bool bn) (.slice an nn cpn)
  have F5 : Fr (fun _ => False) w _ := Fr.trans (HU1.out.tr HU2.out).fr F4 (fun k hk e => by omega)
  exact ⟨rfl, HH.out.fr F5 (fun _ _ e => e), F5⟩

theorem numR_lt {bn : Bool} {fn : Nat → Nat} {nn i : Nat} (cn : Can 4294967296 fn nn) (h2 : 2 ≤ nn) (hi : i < 1 + (nn + 1) / 2) : numR (if bn then 1 else 0) fn nn i < 18446744073709551616 := by
  unfold numR
  split
  · cases bn <;> simp
  · exact wordU_lt cn.1 (by omega)

theorem raws_of {w2 wf : World} {lo hi w0 nn cpn : Nat} {an : Option Addr} {fn : Nat → Nat} {bn : Bool} (os : OwnIn w2 lo hi (.slice an nn cpn) nn fn) (hlo : w0 < lo) (F4 : Fr (fun k => k = w0) w2 wf) (cn : CanZ bn fn nn) (h2 : 2 ≤ nn) (hl : nn ≤ 256) :
    Calls Try.prog 64 #[.agg #[.bool bn, .slice an nn cpn]] wf fun e w' => ∃ g cap, e = .returned (.slice (some ⟨g, 0, none⟩) (1 + (nn + 1) / 2) cap) ∧ wf.heap.size ≤ g ∧ (∀ i, i < 1 + (nn + 1) / 2 → w'.cell? ⟨g, 0 + i, none⟩ = some (.int .u64 (numR (if bn then 1 else 0) fn nn i))) ∧ Up wf w' := by
  rcases os.1 with ⟨_, e2⟩ | ⟨gb, cp, e, hg, hcp, row⟩
  · omega
  · cases e
    refine (numberRaws_any wf _ bn (some ⟨gb, 0, none⟩) nn cpn gb 0 fn rfl (.inr ⟨rfl, row.le, by omega⟩) cn.1.1 (fun i hi => ?_) (by omega)).mono fun e w' he => ?_
    · rw [Nat.zero_add]
      exact (F4.cell row.lt (by omega)).trans (row.cell hi)
    · obtain ⟨u, h1, h3, h4⟩ := he
      rcases h3 with ⟨_, e2⟩ | ⟨g, cap, rfl, k1, k2, k3⟩
      · omega
      · exact ⟨g, cap, h1, k1, fun i hi => by rw [Nat.zero_add]; exact k3.cell hi, h4⟩

theorem numb_big {w w3 w4 : World} {hb : Nat} {X X2 : Nat → Prop} {sz : Nat} {tm : Int} {n : Nat} {f : Nat → Nat} {st : Nat → Bool} {Z : Int} {bn : Bool} {fn : Nat → Nat} {nn : Nat} (h : HeapAt w hb X sz tm n f st) (F3 : Fr (fun _ => False) w w3) (cn : CanZ bn fn nn) (hl : nn ≤ 256) (hz : ¬ (-2305843009213693952 ≤ Z ∧ Z < 2305843009213693952)) (sn : sgn bn (num 4294967296 fn nn) = Z)
    (H4 : HeapAt w4 hb X2 sz tm (n + 1 + 0 + (1 + (nn + 1) / 2)) (tagF f n (hOf 5 0 (1 + (nn + 1) / 2)) (numR (if bn then 1 else 0) fn nn) (1 + (nn + 1) / 2)) (also st n)) (G4 : Grows w3.heap.size X X2) (F4 : Fr X w3 w4) :
    Numb w hb X sz tm n f st Z (4 * n) w4 X2 (n + 1 + 0 + (1 + (nn + 1) / 2)) (tagF f n (hOf 5 0 (1 + (nn + 1) / 2)) (numR (if bn then 1 else 0) fn nn) (1 + (nn + 1) / 2)) (also st n) := by
  have hs := F3.size
  have hg := h.good
  refine ⟨H4, fun k hk => ?_, Fr.trans (F3.mono (fun _ _ e => e.elim)) F4 (fun _ _ e => e), .inr ⟨n, bn, fn, nn, rfl, ⟨by have := hg.2.2.1; have := hg.2.2.2; omega, also_new _ _, tagF_head _ _ _ _ _, fun i hi => ?_, by omega, cn.1, hl⟩, sn, hz⟩, fun j hj => ⟨?_, fun e => by simp [also, e]⟩, by omega, by omega, ?_⟩
  · rcases G4 k hk with e | e
    · exact .inl e
    · exact .inr (by omega)
  · unfold tagF
    rw [if_pos (by omega), show n + 1 + i - (n + 1) = i by omega]
  · unfold tagF
    rw [if_neg (by omega), laid_old hj]
  · rw [(small_out hz).2]
    exact decide_eq_false (by omega)

set_option maxRecDepth 20000 in
set_option maxHeartbeats 4000000 in
theorem number_big (w : World) (sb hb : Nat) (X : Nat → Prop) (sz : Nat) (tm : Int) (n : Nat) (f : Nat → Nat) (st : Nat → Bool) (a : Value) (M : Nat) (Z : Int) (h : HeapAt w hb X sz tm n f st) (hS : w.cell? ⟨sb, 0, none⟩ = some (.pointer (some ⟨hb, 0, none⟩))) (hsX : ¬ X sb) (ha : RdD Z M w a) (hM4 : 4 * (M + 1) ≤ 281474976710656) (hz : ¬ (-2305843009213693952 ≤ Z ∧ Z < 2305843009213693952))
    (hl : ∀ b g len, CanZ b g len → sgn b (num 4294967296 g len) = Z → len ≤ 256) (hroom : n + 130 ≤ sz) :
    Calls Try.prog 21 #[.pointer (some ⟨sb, 0, none⟩), a] w fun e w' => ∃ (x : Nat) (X' : Nat → Prop) (n' : Nat) (f' : Nat → Nat) (st' : Nat → Bool), e = .returned (.tuple #[.int .u64 (x : Int), .bool true]) ∧ Numb w hb X sz tm n f st Z x w' X' n' f' st' := by
  obtain ⟨b, m, g, hm, hd, hM, hZ⟩ := ha
  obtain ⟨v, rfl, hv⟩ := hm
  obtain ⟨ao, cap, rfl, -⟩ := id hv
  have hsl : sb < w.heap.size := World.block_lt_of_cell? _ _ hS
  have hXl : ∀ k, X k → k < w.heap.size := fun k hk => h.lt hk
  have KS := fun w1 (u : Up w w1) => small_z (.agg #[.bool b, .slice ao m cap]) b m g Z w1 ⟨_, rfl, hv.up u⟩ hd hZ
  rw [(small_out hz).1, (small_out hz).2] at KS
  have KA := fun (gg : Nat) (w1 : World) (u : Up w w1) (hg : w1.heap[gg]? = some (Obj.cells #[.bool b, .slice ao m cap] 45 (0, 0))) => add1_rd (M := M) hg ⟨b, m, g, ⟨_, rfl, hv.up u⟩, hd, hM, hZ⟩ hM4
  have HKS := hide KS
  have HKA := hide KA
  have HH := hide h
  have HL := hide hl
  have HZ := hide hz
  have HS := hide hS
  clear KS KA hv hd hZ h hz hl hS
  go_enter Try.func21, Try.ntmps21
  go_wp2_with (first
    | (go_at_call 61; refine (HKS.out _ (up_alloc _ _)).mono ?_; rintro e w1 ⟨rfl, u1⟩; have bx : w1.heap[w.heap.size]? = some (.cells #[.bool b, .slice ao m cap] 45 (0, 0)) := (u1.blk (heap_alloc_new w _)); obtain ⟨z0, z1, d0, d1⟩ := fz2 bx; have HU1 : Hid (Up w w1) := hide ((up_alloc w _).tr u1); have HB1 : Hid (w.heap.size < w1.heap.size) := hide (Array.getElem?_eq_some_iff.1 bx).1; have HBX := hide bx; clear u1 bx)
    | (go_at_call 62; refine (HKA.out _ _ (HU1.out.tr (up_alloc _ _)) (heap_alloc_new w1 _)).mono ?_; rintro e w2 ⟨vn, rfl, hn, u2⟩; have HU2 : Hid (Up w1 w2) := hide ((up_alloc w1 _).tr u2); have HN := hide hn; clear hn u2; obtain ⟨bn, nn, fn, ⟨vs, rfl, os⟩, cn, ln, sn⟩ := HN.out; obtain ⟨an, cpn, rfl, hs1, hs2, hs3, hs4⟩ := id os.sl; have hlen := HL.out _ _ _ cn sn; have hlen2 : 2 ≤ nn := big_len cn.1 (by rw [sn]; exact HZ.out); have HOS := hide os; have HCN := hide cn; have HSN := hide sn; clear HN os cn ln sn hs3 hs4; have bx2 := HU2.out.blk HBX.out; clear z0 z1 d0 d1; obtain ⟨z0, z1, d0, d1⟩ := fz2 bx2; have HBX2 := hide bx2; clear bx2)
    | (go_at_call 64; obtain ⟨b4, F4⟩ := stoF2 HBX2.out (.bool bn) (.slice an nn cpn); refine (raws_of HOS.out (w0 := w.heap.size) (by have := HB1.out; simp; omega) F4 HCN.out hlen2 hlen).mono ?_; rintro e w3 ⟨gr, capr, rfl, hgr, hcr, u3⟩; have F3 : Fr (fun _ => False) w w3 := Fr.trans (Fr.trans (HU1.out.tr HU2.out).fr F4 (fun k hk e => by omega)) u3.fr (fun _ _ e => e); have hgl : w.heap.size ≤ gr := Nat.le_trans (Nat.le_trans (HU1.out.tr HU2.out).size F4.size) hgr; have HF3 := hide F3; have HCR := hide hcr; clear b4 F4 F3 hcr hgr u3)
    | (go_at_call 63; refine (layRaw_yes w3 sb hb X sz tm n f st 5 (some ⟨gr, 0, none⟩) (1 + (nn + 1) / 2) capr (numR (if bn then 1 else 0) fn nn) (HH.out.fr HF3.out (fun _ _ e => e)) ((HF3.out.cell hsl (fun e => e)).trans HS.out) hsX (.inr ⟨gr, 0, rfl, fun e => by have := hXl _ e; omega, HCR.out⟩) ?_ (by decide) (by decide) (by omega)).mono ?_; (intro i hi; exact numR_lt HCN.out.1 hlen2 hi); rintro e w4 ⟨rfl, X2, H4, G4, F4⟩))
  go_ret2
  exact ⟨4 * n, X2, _, _, _, rfl, numb_big HH.out HF3.out HCN.out hlen HZ.out HSN.out H4 G4 F4⟩

end Go.Proofs.Ytchdfenickjiiaa
