/-
  What is proved here: nat.guessLimb answers the quotient of a part by the divisor, or 1 more.
-/
import Derived.Test.YtkmpobmpencefaaDoorTake
namespace Go.Proofs.YtkmpobmpencefaaDoor
open Go Go.RowKit

/-- The memory is the same; at the most something was drawn. -/
structure Still (w w' : World) : Prop where
  os : w'.os = w.os
  tape : w'.tape = w.tape
  output : w'.output = w.output
  heap : w'.heap = w.heap
theorem Still.refl (w : World) : Still w w := ⟨rfl, rfl, rfl, rfl⟩
theorem Still.drew {w w' : World} (h : Still w w') : Still w w'.drew := ⟨h.os, h.tape, h.output, h.heap⟩

/-- q is the quotient; where the loop stands: first times the guess, and what is left, make the head; the guess is not below q. -/
def GuessRel (first head q g l : Nat) : Prop := g * first + l = head ∧ q ≤ g ∧ l < 4294967296

theorem GuessRel.down {first second head next q g l : Nat} (r : GuessRel first head q g l) (hq : q * (first * 4294967296 + second) ≤ head * 4294967296 + next) (hqB : q < 4294967296)
    (hc : 4294967296 ≤ g ∨ l * 4294967296 + next < g * second) : 1 ≤ g ∧ (g - 1) * first + (l + first) = head ∧ q ≤ g - 1 := by
  obtain ⟨h1, h2, h3⟩ := r
  have hlt : q < g := by
    apply Nat.lt_of_not_le
    intro hle
    have e : g = q := by omega
    subst e
    rcases hc with hc | hc
    · omega
    · have e1 : g * (first * 4294967296 + second) = g * first * 4294967296 + g * second := by rw [Nat.mul_add, Nat.mul_assoc]
      rw [e1, ← h1, Nat.add_mul] at hq
      omega
  refine ⟨by omega, ?_, by omega⟩
  obtain ⟨k, rfl⟩ : ∃ k, g = k + 1 := ⟨g - 1, by omega⟩
  rw [Nat.add_sub_cancel]
  rw [Nat.add_mul, Nat.one_mul] at h1
  omega

theorem GuessRel.ok {first second head next g l : Nat} (h1 : g * first + l = head) (hc : g * second ≤ l * 4294967296 + next) : g * (first * 4294967296 + second) ≤ head * 4294967296 + next := by
  rw [Nat.mul_add, ← Nat.mul_assoc, ← h1, Nat.add_mul]
  omega

theorem GuessRel.out {first second head next g l : Nat} (h1 : g * first + l = head) (hl : 4294967296 ≤ l) (hs : second < 4294967296) (hh : head < first * 4294967296 + 4294967296) :
    g < 4294967296 ∧ g * second ≤ l * 4294967296 + next := by
  have hg : g < 4294967296 := by
    apply Nat.lt_of_not_le
    intro hle
    have : 4294967296 * first ≤ g * first := Nat.mul_le_mul_right _ hle
    omega
  refine ⟨hg, ?_⟩
  have h2 : g * second ≤ 4294967296 * 4294967296 := Nat.mul_le_mul (by omega) (by omega)
  have h3 : 4294967296 * 4294967296 ≤ l * 4294967296 := Nat.mul_le_mul_right _ hl
  omega

set_option maxHeartbeats 2000000 in
theorem guess_core (b off b2 off2 n n1 n2 cap cap2 first second u0 u1 u2 head q : Nat) (w : World) (hhead : head = u0 * 4294967296 + u1) (hn1 : n1 + 1 = n) (hn2 : n2 + 2 = n) (hnl : n ≤ 9000000000000000000)
    (c1 : w.cell? ⟨b2, off2 + n1, none⟩ = some (.int .u32 first)) (c2 : w.cell? ⟨b2, off2 + n2, none⟩ = some (.int .u32 second))
    (c3 : w.cell? ⟨b, off + n, none⟩ = some (.int .u32 u0)) (c4 : w.cell? ⟨b, off + n1, none⟩ = some (.int .u32 u1)) (c5 : w.cell? ⟨b, off + n2, none⟩ = some (.int .u32 u2))
    (f1 : first < 4294967296) (f2 : second < 4294967296) (f3 : u0 < 4294967296) (f4 : u1 < 4294967296) (f5 : u2 < 4294967296) (hfirst : 0 < first)
    (hq : q * (first * 4294967296 + second) ≤ head * 4294967296 + u2) (hqB : q < 4294967296) (hu : u0 ≤ first) :
    Calls Tryd.prog 121 #[.slice (some ⟨b, off, none⟩) (n + 1) cap, .slice (some ⟨b2, off2, none⟩) n cap2] w fun e w' => ∃ gg : Nat, e = .returned (.int .u32 gg) ∧ Still w w' ∧ q ≤ gg ∧ gg < 4294967296 ∧
      gg * (first * 4294967296 + second) ≤ head * 4294967296 + u2 := by
  have HQ := hide hq
  have hw1 : IntKind.i64.wrap ((n : Int) - 1) = (n1 : Int) := by
    simp only [IntKind.wrap, IntKind.bits, IntKind.signed]; simp; omega
  have hw2 : IntKind.i64.wrap ((n : Int) - 2) = (n2 : Int) := by
    simp only [IntKind.wrap, IntKind.bits, IntKind.signed]; simp; omega
  have i1 : (0 : Int) ≤ (n1 : Int) := by omega
  have i2 : (n1 : Int) < (n : Int) := by omega
  have i3 : (0 : Int) ≤ (n2 : Int) := by omega
  have i4 : (n2 : Int) < (n : Int) := by omega
  have i5 : (n1 : Int) < (n : Int) + 1 := by omega
  have i6 : (0 : Int) ≤ (n : Int) := by omega
  have i7 : (n : Int) < (n : Int) + 1 := by omega
  have ho := head_or u0 u1 f3 f4
  have hc5 : w.cell? ⟨b, off + (n - 2), none⟩ = some (.int .u32 u2) := by rw [show n - 2 = n2 from by omega]; exact c5
  clear hq
  have hhl : head < first * 4294967296 + 4294967296 := by
    have : u0 * 4294967296 ≤ first * 4294967296 := Nat.mul_le_mul_right _ hu
    omega
  have hh64 : head < 18446744073709551616 := by omega
  have HEAD := hide (show ((u0 : Int) * 4294967296 + (u1 : Int)) = (head : Int) by rw [hhead]; simp)
  clear hhead
  have hf0 : (0 : Int) < (first : Int) := by omega
  go_enter Tryd.func121, Tryd.ntmps121
  go_wp2
  go_region
  all_goals go_wp2
  all_goals go_region
  all_goals go_wp2
  clear ho hw1 hw2 i1 i2 i3 i4 i5 i6 i7 hc5 c1 c2 c3 c4 c5
  rw [unhide HEAD]
  clear HEAD
  go_region
  all_goals go_wp2
  go_loop [10, 11] (fun t10 t11 => ∃ g l : Nat, t10 = .int .u64 g ∧ t11 = .int .u64 l ∧ g ≤ head ∧ GuessRel first head q g l) (fun t10 _ => (intOf t10).toNat)
  case atStart => exact ⟨head / first, head % first, congrArg (Value.int .u64) (wrap_u64_of (p := head / first) (by simp) (Nat.lt_of_le_of_lt (Nat.div_le_self _ _) hh64)), by simp, Nat.div_le_self _ _, by rw [Nat.mul_comm]; exact Nat.div_add_mod _ _, by
      rw [Nat.le_div_iff_mul_le hfirst]
      have h1 := unhide HQ
      rw [Nat.mul_add, ← Nat.mul_assoc] at h1
      have h2 : q * first * 4294967296 < (head + 1) * 4294967296 := by omega
      have h3 := Nat.lt_of_mul_lt_mul_right h2
      omega, Nat.lt_trans (Nat.mod_lt _ hfirst) f1⟩
  case round =>
    obtain ⟨g, l, rfl, rfl, hgh, hrl⟩ := hrel
    have hll : l < 4294967296 := hrl.2.2
    have HRL := hide hrl
    have hq1 := hrl.2.1
    clear hrl
    by_cases hbig : 4294967296 ≤ g
    · have HD := hide ((unhide HRL).down (unhide HQ) hqB (.inl hbig))
      by_cases hbr : 4294967296 ≤ l + first
      · go_wp2
        go_ret
        obtain ⟨d1, d2, d3⟩ := unhide HD
        obtain ⟨o1, o2⟩ := GuessRel.out (next := u2) d2 hbr f2 hhl
        exact ⟨g - 1, ret_num (by omega), by repeat (first | exact Still.refl _ | apply Still.drew), d3, o1, GuessRel.ok d2 o2⟩
      · have hg1 : 1 ≤ g := by omega
        go_wp2
        go_round
        case rel => exact ⟨g - 1, l + first, by go_num, by go_num, by omega, (unhide HD).2.1, (unhide HD).2.2, by omega⟩
        case measure => simp [intOf]; omega
    · have hpl : g * second ≤ 4294967295 * 4294967295 := Nat.mul_le_mul (by omega) (by omega)
      have hw : IntKind.u64.wrap ((g : Int) * (second : Int)) = ((g * second : Nat) : Int) := wrap_u64_of (by simp) (by omega)
      have hor := head_or l u2 hll f5
      by_cases hc : l * 4294967296 + u2 < g * second
      · have HD := hide ((unhide HRL).down (unhide HQ) hqB (.inr hc))
        have hg1 : 1 ≤ g := (unhide HD).1
        generalize g * second = gs at *
        by_cases hbr : 4294967296 ≤ l + first
        · go_wp2
          go_ret
          obtain ⟨d1, d2, d3⟩ := unhide HD
          obtain ⟨o1, o2⟩ := GuessRel.out (next := u2) d2 hbr f2 hhl
          exact ⟨g - 1, ret_num (by omega), by repeat (first | exact Still.refl _ | apply Still.drew), d3, o1, GuessRel.ok d2 o2⟩
        · go_wp2
          go_round
          case rel => exact ⟨g - 1, l + first, by go_num, by go_num, by omega, (unhide HD).2.1, (unhide HD).2.2, by omega⟩
          case measure => simp [intOf]; omega
      · have HOK := hide (GuessRel.ok (next := u2) (unhide HRL).1 (Nat.le_of_not_lt hc))
        generalize g * second = gs at *
        go_wp2
        go_ret
        exact ⟨g, ret_num (by omega), by repeat (first | exact Still.refl _ | apply Still.drew), hq1, by omega, unhide HOK⟩

end Go.Proofs.YtkmpobmpencefaaDoor
