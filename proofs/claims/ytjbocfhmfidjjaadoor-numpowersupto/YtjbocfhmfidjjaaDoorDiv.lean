/-
  What is proved here: nat.Div answers the canonical limbs of quotient and rest and true; nothing, nothing and false, where the divisor is 0.
-/
import Derived.Test.YtjbocfhmfidjjaaDoorLong
namespace Go.Proofs.YtjbocfhmfidjjaaDoor
open Go Go.RowKit

set_option maxRecDepth 4000 in
set_option maxHeartbeats 1000000 in
theorem div_zero (v u : Value) (n m : Nat) (f h : Nat → Nat) (w : World) (hv : Sl .u32 w v n f) (hu : Sl .u32 w u m h) (hz : num 4294967296 h m = 0) :
    Calls Tryd.prog 85 #[v, u] w fun e w' => e = .returned (.tuple #[.slice none 0 0, .slice none 0 0, .bool false]) ∧ Below w.heap.size w w' := by
  obtain ⟨ao, cap, rfl, h1, h2, h0, h3⟩ := hv
  obtain ⟨bo, capb, rfl, g1, g2, g0, g3⟩ := hu
  clear h0 g0
  go_enter Tryd.func85, Tryd.ntmps85
  go_wp2_with fail
  refine (trim_any _ _ _ f _ h3 h1 h2).mono ?_
  rintro e w1 ⟨rfl, p, hp, rfl, zp, tp⟩
  go_wp2_with fail
  refine (trim_any _ _ _ h _ g3 g1 g2).mono ?_
  rintro e w1 ⟨rfl, q, hq, rfl, zq, tq⟩
  have hq0 : q = 0 := by
    by_cases hq0 : q = 0
    · exact hq0
    · exfalso
      have h6 := num_ge (B := 4294967296) (f := h) (n := q) (by omega) (by rcases tq with h | h; omega; exact h)
      have h7 := num_tail (B := 4294967296) hq zq
      have : 0 < 4294967296 ^ (q - 1) := Nat.pos_of_ne_zero (by simp)
      omega
  subst hq0
  go_wp2_with fail
  go_ret3
  exact ⟨rfl, Below.refl _ _⟩

theorem div_one {A Bv : Nat} (h : A < Bv) : A / Bv = 0 ∧ A % Bv = A := ⟨Nat.div_eq_of_lt h, Nat.mod_eq_of_lt h⟩

/-- Two values that do not lie in one block. -/
def Apart (a b : Value) : Prop := ∀ g, a.ownBlock = some g → b.ownBlock ≠ some g

set_option maxRecDepth 4000 in
set_option maxHeartbeats 4000000 in
theorem div_sep (v u : Value) (n m : Nat) (f h : Nat → Nat) (w : World) (hv : Sl .u32 w v n f) (hu : Sl .u32 w u m h) (hf : ∀ i, i < n → f i < 4294967296) (hh : ∀ i, i < m → h i < 4294967296) (hn : 4 * (n + 1) ≤ 281474976710656) (hpos : 0 < num 4294967296 h m) :
    Calls Tryd.prog 85 #[v, u] w fun e w' => Hid (∃ (nq nr : Nat) (fq fr : Nat → Nat) (vq vr : Value), e = .returned (.tuple #[vq, vr, .bool true]) ∧ Apart vq vr ∧ Own .u32 64 w' w.heap.size vq nq fq ∧ Own .u32 64 w' w.heap.size vr nr fr ∧ Below w.heap.size w w' ∧
      Can 4294967296 fq nq ∧ Can 4294967296 fr nr ∧ nq + m ≤ n + 1 + m ∧ nr ≤ m ∧ num 4294967296 fq nq = num 4294967296 f n / num 4294967296 h m ∧ num 4294967296 fr nr = num 4294967296 f n % num 4294967296 h m) := by
  obtain ⟨ao, cap, rfl, h1, h2, h0, h3⟩ := hv
  obtain ⟨bo, capb, rfl, g1, g2, g0, g3⟩ := hu
  go_enter Tryd.func85, Tryd.ntmps85
  go_wp2_with fail
  refine (trim_any _ _ _ f _ h3 h1 h2).mono ?_
  rintro e w1 ⟨rfl, p, hp, rfl, zp, tp⟩
  go_wp2_with fail
  refine (trim_any _ _ _ h _ g3 g1 g2).mono ?_
  rintro e w1 ⟨rfl, q, hq, rfl, zq, tq⟩
  have HE1 := hide (num_tail (B := 4294967296) hp zp)
  have HE2 := hide (num_tail (B := 4294967296) hq zq)
  have hq0 : q ≠ 0 := by
    intro e
    have := unhide HE2
    subst e
    rw [num_zero] at this
    omega
  replace h3 := h3.mono hp
  replace g3 := g3.mono hq
  replace hf : ∀ i, i < p → f i < 4294967296 := fun i hi => hf i (by omega)
  replace hh : ∀ i, i < q → h i < 4294967296 := fun i hi => hh i (by omega)
  have hb0 : ((q : Int) == 0) = false := beq_eq_false_iff_ne.2 (by omega)
  have sa : Sl .u32 w1 (.slice ao p cap) p f := ⟨ao, cap, rfl, by omega, h2, h0, h3⟩
  have sb : Sl .u32 w1 (.slice bo q capb) q h := ⟨bo, capb, rfl, by omega, g2, g0, g3⟩
  have htq : h (q - 1) ≠ 0 := by rcases tq with h | h; omega; exact h
  clear zp zq h0 g0
  go_wp2_with fail
  refine (cmp_any _ _ p q f h _ sa sb hf hh).mono ?_
  rintro e w2 ⟨rfl, u2⟩
  replace u2 : Up w1 w2 := u2
  have hz2 := Below.size u2
  clear sa sb
  rcases Nat.lt_or_ge (num 4294967296 f p) (num 4294967296 h q) with hlt | hge
  · rw [cmpN_lt hlt]
    have HD := hide (div_one hlt)
    have hpq : p ≤ q := by
      apply Nat.le_of_not_lt
      intro h5
      have := can_lt (B := 4294967296) (by decide) hh ⟨hf, tp⟩ h5
      omega
    go_wp2_with fail
    refine (clone_any _ p _ f _ (h3.below u2 (Nat.le_refl _)) (by omega)).mono ?_
    rintro e w3 ⟨rfl, r3, u3⟩
    replace u3 : Up w2 w3 := u3
    go_wp2_with fail
    go_ret3
    refine hide ⟨0, p, fun _ => 0, f, _, _, rfl, (fun g h => by cases h), .inl ⟨rfl, rfl⟩, r3.own hz2 (by omega), u2.tr u3, ⟨fun i hi => by omega, .inl rfl⟩, ⟨hf, tp⟩, by omega, by omega, ?_⟩
    rw [unhide HE1, unhide HE2, (unhide HD).1, (unhide HD).2]
    exact ⟨rfl, rfl⟩
  · have hc0 : ¬ cmpN (num 4294967296 f p) (num 4294967296 h q) < 0 := by unfold cmpN; split <;> (try split) <;> omega
    have hqp : q ≤ p := by
      apply Nat.le_of_not_lt
      intro h5
      have := can_lt (B := 4294967296) (by decide) hf ⟨hh, .inr htq⟩ h5
      omega
    generalize cmpN (num 4294967296 f p) (num 4294967296 h q) = cc at *
    by_cases hq1 : q = 1
    · subst hq1
      rcases id g3 with h5 | ⟨b, off, eb, hcb⟩
      · omega
      subst eb
      have hcell := (Below.cell u2 (p := ⟨b, off + 0, none⟩) (Rd.lt hcb (by omega))).trans (hcb 0 (by omega))
      rw [Nat.add_zero] at hcell
      have hdl := hh 0 (by omega)
      have hdp : 0 < h 0 := by
        have : h (1 - 1) ≠ 0 := htq
        exact Nat.pos_of_ne_zero this
      have HD := hide (show num 4294967296 h 1 = h 0 by simp [num])
      have hbs : b < w2.heap.size := by have := Rd.lt hcb (show 0 < 1 by omega); omega
      clear hcb htq hh hpos
      go_wp2_with fail
      refine (clone_any _ p _ f _ (h3.below u2 (Nat.le_refl _)) (by omega)).mono ?_
      rintro e w3 ⟨rfl, r3, u3⟩
      replace u3 : Up w2 w3 := u3
      have hcell3 := (Below.cell u3 (p := ⟨b, off, none⟩) hbs).trans hcell
      generalize h 0 = d at *
      go_wp2_with fail
      refine (divideByLimb_any _ p p p _ d f _ r3 (Nat.le_refl _) (by omega) hdp hdl hf).mono ?_
      rintro e w4 ⟨f4, rfl, r4, o4, d4, p4⟩
      have hsz4 := o4.size
      have hlt4 := r4.lt
      have B4 : Below w1.heap.size w1 w4 := Only.below (u2.tr u3) o4 hz2
      have P4 := hide p4
      have hrl : num 4294967296 f p % d < d := Nat.mod_lt _ hdp
      have HR := hide (show num 4294967296 f p % d = num 4294967296 f p % d from rfl)
      obtain ⟨rr, hrr⟩ : ∃ rr, rr = num 4294967296 f p % d := ⟨_, rfl⟩
      rw [← hrr] at hrl ⊢
      have HRR := hide hrr
      have hsz4' : w1.heap.size ≤ w4.heap.size := by omega
      clear p4 hrr o4 r3 hcell hcell3 HR hsz4
      go_wp2_with fail
      have r4' := r4.block (Below.heap_alloc w4 (.cells #[.int .u32 rr] 64) _ hlt4)
      refine (trim_any _ p _ f4 _ r4'.rd (Nat.le_refl _) (by omega)).mono ?_
      rintro e w5 ⟨rfl, a5, la5, rfl, z5, t5⟩
      have r6 := row_lit w4 64 .u32 #[.int .u32 rr] 1 (fun _ => rr) rfl (fun i hi => by obtain rfl : i = 0 := (by omega); rfl)
      go_wp2_with fail
      refine (trim_any _ 1 _ (fun _ => rr) _ r6.rd (Nat.le_refl _) (by omega)).mono ?_
      rintro e w6 ⟨rfl, a6, la6, rfl, z6, t6⟩
      go_wp2_with fail
      go_ret3
      refine hide ⟨a5, a6, f4, fun _ => rr, _, _, rfl, (fun g e1 e2 => by simp [Value.ownBlock] at e1 e2; omega), (r4'.mono la5).own (by omega) (by omega), (r6.mono la6).own hsz4' (by omega), B4.alloc hsz4' _, can_of_trim d4 la5 t5, ⟨fun _ _ => (show rr < 4294967296 by omega), t6⟩, by omega, by omega, ?_, ?_⟩
      · rw [← num_tail la5 z5, unhide P4, unhide HE1, unhide HE2, unhide HD]
      · rw [← num_tail la6 z6, unhide HE1, unhide HE2, unhide HD, ← unhide HRR]
        simp [num]
    · have hb1 : ((q : Int) == 1) = false := beq_eq_false_iff_ne.2 (by omega)
      go_wp2_with fail
      refine (divideLong_any _ _ p q (p + 1 - q) _ _ f h _ (h3.below u2 (Nat.le_refl _)) (g3.below u2 (Nat.le_refl _)) (by omega) (by omega) (by omega) (by omega) hf hh htq).mono ?_
      rintro e w3 HX
      obtain ⟨ga, gb, qf, rf, rfl, a1, a2, a3, a4, a5, a6, a7, a8, a9, a10⟩ := unhide HX
      replace a6 : Up w2 w3 := a6
      have A9 := hide a9
      have A10 := hide a10
      clear HX a9 a10
      go_wp2_with fail
      refine (trim_any _ (p + 1 - q) _ qf _ a4.rd (Nat.le_refl _) (by omega)).mono ?_
      rintro e w5 ⟨rfl, x5, l5, rfl, z5, t5⟩
      go_wp2_with fail
      refine (trim_any _ q _ rf _ a5.rd (Nat.le_refl _) (by omega)).mono ?_
      rintro e w6 ⟨rfl, x6, l6, rfl, z6, t6⟩
      go_wp2_with fail
      go_ret3
      refine hide ⟨x5, x6, qf, rf, _, _, rfl, (fun g e1 e2 => by simp [Value.ownBlock] at e1 e2; omega), (a4.mono l5).own (by omega) (by omega), (a5.mono l6).own (by omega) (by omega), u2.tr a6, can_of_trim a7 l5 t5, can_of_trim a8 l6 t6, by omega, by omega, ?_, ?_⟩
      · rw [← num_tail l5 z5, unhide A9, unhide HE1, unhide HE2]
      · rw [← num_tail l6 z6, unhide A10, unhide HE1, unhide HE2]

theorem div_any (v u : Value) (n m : Nat) (f h : Nat → Nat) (w : World) (hv : Sl .u32 w v n f) (hu : Sl .u32 w u m h) (hf : ∀ i, i < n → f i < 4294967296) (hh : ∀ i, i < m → h i < 4294967296) (hn : 4 * (n + 1) ≤ 281474976710656) (hpos : 0 < num 4294967296 h m) :
    Calls Tryd.prog 85 #[v, u] w fun e w' => Hid (∃ (nq nr : Nat) (fq fr : Nat → Nat) (vq vr : Value), e = .returned (.tuple #[vq, vr, .bool true]) ∧ Own .u32 64 w' w.heap.size vq nq fq ∧ Own .u32 64 w' w.heap.size vr nr fr ∧ Below w.heap.size w w' ∧
      Can 4294967296 fq nq ∧ Can 4294967296 fr nr ∧ nq + m ≤ n + 1 + m ∧ nr ≤ m ∧ num 4294967296 fq nq = num 4294967296 f n / num 4294967296 h m ∧ num 4294967296 fr nr = num 4294967296 f n % num 4294967296 h m) := by
  refine (div_sep v u n m f h w hv hu hf hh hn hpos).mono ?_
  rintro e w' HX
  obtain ⟨nq, nr, fq, fr, vq, vr, h1, -, h2⟩ := unhide HX
  exact hide ⟨nq, nr, fq, fr, vq, vr, h1, h2⟩

end Go.Proofs.YtjbocfhmfidjjaaDoor
