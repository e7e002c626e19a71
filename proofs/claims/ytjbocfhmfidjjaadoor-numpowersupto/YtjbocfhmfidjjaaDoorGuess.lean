/-
  What is proved here: plain facts on long division digit by digit, and on shifts; no walk. nat.takeTimes takes a multiple of one row of limbs from another in place, and tells whether it had to borrow. nat.guessLimb answers the quotient of a part by the divisor, or 1 more.
-/
import Derived.Test.YtjbocfhmfidjjaaDoorMul
import Derived.Test.YtjbocfhmfidjjaaDoorDivLimb
namespace Go.Proofs.YtjbocfhmfidjjaaDoor
open Go Go.RowKit

/-- Behind k digits: x times h's digits are taken from the row, but for what was borrowed (b) and carried (c). -/
def TakeRel (f h : Nat → Nat) (x off n k : Nat) (f' : Nat → Nat) (b c : Nat) : Prop :=
  b ≤ 1 ∧ c < 4294967296 ∧ (∀ i, ¬ (off ≤ i ∧ i < off + k) → f' i = f i) ∧ (∀ i, i < n → f' (off + i) < 4294967296) ∧
  num 4294967296 (fun i => f' (off + i)) k + x * num 4294967296 h k = num 4294967296 (fun i => f (off + i)) k + (b + c) * 4294967296 ^ k

theorem TakeRel.start {f h : Nat → Nat} {x off n : Nat} (hf : ∀ i, i < n → f (off + i) < 4294967296) : TakeRel f h x off n 0 f 0 0 :=
  ⟨by omega, by omega, fun _ _ => rfl, hf, by simp [num]⟩

theorem take_small {x y c : Nat} (hx : x < 4294967296) (hy : y < 4294967296) (hc : c < 4294967296) : c + y * x < 18446744073709551616 := by
  have : y * x ≤ 4294967295 * 4294967295 := Nat.mul_le_mul (by omega) (by omega)
  omega

theorem TakeRel.step {f h f' : Nat → Nat} {x off n k b c y z d b' : Nat} (r : TakeRel f h x off n k f' b c) (hx : x < 4294967296) (hz : f' (off + k) = z) (hy : h k = y) (hyl : y < 4294967296)
    (hd : d < 4294967296) (hb' : b' ≤ 1) (hs : d + (c + y * x) % 4294967296 + b = z + 4294967296 * b') :
    TakeRel f h x off n (k + 1) (upd f' (off + k) d) b' ((c + y * x) / 4294967296) := by
  obtain ⟨h1, h2, h3, h4, h5⟩ := r
  have hsm := take_small hx hyl h2
  refine ⟨hb', by omega, fun i hi => ?_, fun i hi => ?_, ?_⟩
  · rw [upd_other (by omega)]
    exact h3 i (by omega)
  · by_cases e : i = k
    · rw [e, upd_same]; exact hd
    · rw [upd_other (by omega)]; exact h4 i hi
  · rw [num_succ, num_succ, num_succ, upd_same]
    rw [num_congr (g := fun i => f' (off + i)) (fun i hi => upd_other (by omega))]
    have e1 : f (off + k) = z := by rw [← hz]; exact (h3 _ (by omega)).symm
    rw [e1, hy, Nat.pow_succ]
    generalize 4294967296 ^ k = P at *
    generalize hS : c + y * x = S at *
    have e2 : (d + S % 4294967296 + b) * P = (z + 4294967296 * b') * P := by rw [hs]
    rw [Nat.add_mul, Nat.add_mul, Nat.add_mul] at e2
    have e3 : S % 4294967296 * P + S / 4294967296 * (P * 4294967296) = S * P := by
      rw [Nat.mul_comm P, ← Nat.mul_assoc, ← Nat.add_mul, Nat.mul_comm _ 4294967296, Nat.mod_add_div]
    have e4 : S * P = c * P + y * x * P := by rw [← hS, Nat.add_mul]
    have e5 : x * (num 4294967296 h k + y * P) = x * num 4294967296 h k + y * x * P := by rw [Nat.mul_add, ← Nat.mul_assoc, Nat.mul_comm x y]
    have e6 : (b' + S / 4294967296) * (P * 4294967296) = 4294967296 * b' * P + S / 4294967296 * (P * 4294967296) := by
      rw [Nat.add_mul, Nat.mul_comm 4294967296 b', Nat.mul_assoc, Nat.mul_comm 4294967296 P]
    rw [Nat.add_mul] at h5
    rw [e5, e6]
    omega

/-- The last place takes what was carried. -/
theorem TakeRel.last {f h f' : Nat → Nat} {x off n b c z d b' : Nat} (r : TakeRel f h x off (n + 1) n f' b c) (hz : f' (off + n) = z)
    (hd : d < 4294967296) (hs : d + c + b = z + 4294967296 * b') :
    (∀ i, ¬ (off ≤ i ∧ i < off + (n + 1)) → upd f' (off + n) d i = f i) ∧ (∀ i, i < n + 1 → upd f' (off + n) d (off + i) < 4294967296) ∧
    num 4294967296 (fun i => upd f' (off + n) d (off + i)) (n + 1) + x * num 4294967296 h n = num 4294967296 (fun i => f (off + i)) (n + 1) + b' * 4294967296 ^ (n + 1) := by
  obtain ⟨h1, h2, h3, h4, h5⟩ := r
  refine ⟨fun i hi => ?_, fun i hi => ?_, ?_⟩
  · rw [upd_other (by omega)]
    exact h3 i (by omega)
  · by_cases e : i = n
    · rw [e, upd_same]; exact hd
    · rw [upd_other (by omega)]; exact h4 i hi
  · rw [num_succ, num_succ, upd_same]
    rw [num_congr (g := fun i => f' (off + i)) (fun i hi => upd_other (by omega))]
    have e1 : f (off + n) = z := by rw [← hz]; exact (h3 _ (by omega)).symm
    rw [e1, Nat.pow_succ]
    generalize 4294967296 ^ n = P at *
    have e2 : (d + c + b) * P = (z + 4294967296 * b') * P := by rw [hs]
    rw [Nat.add_mul, Nat.add_mul, Nat.add_mul] at e2
    have e3 : 4294967296 * b' * P = b' * (P * 4294967296) := by rw [Nat.mul_comm 4294967296 b', Nat.mul_assoc, Nat.mul_comm 4294967296 P]
    rw [Nat.add_mul] at h5
    omega

/-- The highest digits bound a number. -/
theorem num_hi2 (B : Nat) (h : Nat → Nat) (n : Nat) (hn : 2 ≤ n) : num B h n = num B h (n - 2) + B ^ (n - 2) * (h (n - 2) + h (n - 1) * B) := by
  have e : n = (n - 2) + 2 := by omega
  rw [show num B h n = num B h ((n - 2) + 2) from by rw [← e], num_split]
  simp only [num, Nat.pow_zero, Nat.mul_one, Nat.zero_add, Nat.add_zero]
  rw [show n - 2 + 1 = n - 1 from by omega]
  simp

/-- What is known of a guess by the highest limbs. U3: the dividend's three highest limbs, D2: the divisor's two highest; q is the quotient. -/
theorem guess_hi {q g U D U3 D2 P : Nat} (hU : U3 * P ≤ U) (hD : D < (D2 + 1) * P) (hq : U < (q + 1) * D) (hg : g * D2 ≤ U3) (hD2 : 4294967296 ≤ D2) (hqB : q < 4294967296) : g ≤ q + 1 := by
  apply Nat.le_of_not_lt
  intro hlt
  have h1 : (q + 2) * D2 ≤ g * D2 := Nat.mul_le_mul_right _ hlt
  have h2 : (q + 2) * D2 * P ≤ U := Nat.le_trans (Nat.mul_le_mul_right _ (Nat.le_trans h1 hg)) hU
  have h3 : (q + 1) * D ≤ (q + 1) * ((D2 + 1) * P) := Nat.mul_le_mul_left _ (Nat.le_of_lt hD)
  have h4 : (q + 2) * D2 * P < (q + 1) * ((D2 + 1) * P) := by omega
  rw [← Nat.mul_assoc] at h4
  have h5 := Nat.lt_of_mul_lt_mul_right h4
  have e1 : (q + 2) * D2 = q * D2 + 2 * D2 := by rw [Nat.add_mul]
  have e2 : (q + 1) * (D2 + 1) = q * D2 + q + (D2 + 1) := by rw [Nat.add_mul, Nat.mul_add, Nat.mul_one, Nat.one_mul]
  omega
theorem guess_lo {q U D U3 D2 P : Nat} (hU : U < (U3 + 1) * P) (hD : D2 * P ≤ D) (hq : q * D ≤ U) : q * D2 ≤ U3 := by
  have h1 : q * (D2 * P) ≤ q * D := Nat.mul_le_mul_left _ hD
  have h2 : q * D2 * P < (U3 + 1) * P := by rw [Nat.mul_assoc]; omega
  have h3 := Nat.lt_of_mul_lt_mul_right h2
  omega

theorem cast_bne (b : Nat) : ((b : Int) != 0) = (b != 0) := by
  rw [Bool.eq_iff_iff, bne_iff_ne, bne_iff_ne]
  omega
theorem ret_bool {a b : Bool} (h : a = b) : Ending.returned (.bool a) = .returned (.bool b) := by rw [h]

set_option maxHeartbeats 1000000 in
theorem takeTimes_any (g off N K n cap capb x : Nat) (f h : Nat → Nat) (bo : Option Addr) (w : World)
    (hrow : RowAt .u32 64 w g N K f) (hoff : off + (n + 1) ≤ K) (hb : Rd .u32 w bo n h) (hsep : ∀ a, bo = some a → n ≠ 0 → a.block ≠ g) (hn : n ≤ 9000000000000000000) (hx : x < 4294967296)
    (hf : ∀ i, i < n + 1 → f (off + i) < 4294967296) (hh : ∀ i, i < n → h i < 4294967296) (hn0 : 0 < n) :
    Calls Tryd.prog 122 #[.slice (some ⟨g, off, none⟩) (n + 1) cap, .slice bo n capb, .int .u32 x] w fun e w' => ∃ (b : Nat) (f' : Nat → Nat), e = .returned (.bool (b != 0)) ∧ b ≤ 1 ∧ RowAt .u32 64 w' g N K f' ∧ Only g w w' ∧
      (∀ i, ¬ (off ≤ i ∧ i < off + (n + 1)) → f' i = f i) ∧ (∀ i, i < n + 1 → f' (off + i) < 4294967296) ∧
      num 4294967296 (fun i => f' (off + i)) (n + 1) + x * num 4294967296 h n = num 4294967296 (fun i => f (off + i)) (n + 1) + b * 4294967296 ^ (n + 1) := by
  rcases hb with hb | ⟨bb, offb, rfl, hc⟩
  · omega
  have hbg : bb ≠ g := hsep _ rfl (by omega)
  clear hsep
  go_enter Tryd.func122, Tryd.ntmps122
  go_wp2
  go_loopw [7, 8, 13] (fun c b t wr => ∃ (k : Nat) (f' : Nat → Nat) (cc bb' : Nat), k ≤ n ∧ t = .int .i64 k ∧ c = .int .u64 cc ∧ b = .int .u32 bb' ∧ RowAt .u32 64 wr g N K f' ∧ Only g w wr ∧ TakeRel f h x off (n + 1) k f' bb' cc) (fun _ _ t _ => n - (intOf t).toNat)
  case atStart => exact ⟨0, f, 0, 0, Nat.zero_le _, rfl, rfl, rfl, hrow, Only.refl _ _, TakeRel.start hf⟩
  case round =>
    obtain ⟨k, f', cc, bo', hk, rfl, rfl, rfl, hr, ho, hrl⟩ := hrel
    have hcc : cc < 4294967296 := hrl.2.1
    have hbo : bo' ≤ 1 := hrl.1
    by_cases hlt : k < n
    · have hz := hr.cell (i := off + k) (by omega)
      have hfr := hr.free (off + k)
      have hy := (ho.cell (p := ⟨bb, offb + k, none⟩) hbg).trans (hc k hlt)
      have hzl : f' (off + k) < 4294967296 := hrl.2.2.2.1 k (by omega)
      have hyl := hh k hlt
      have HS := hide (fun (d b' : Nat) => hrl.step (z := f' (off + k)) (y := h k) (d := d) (b' := b') hx rfl rfl hyl)
      have HR := hide hr
      have HO := hide ho
      clear hrl hr ho hc hh hf hrow
      generalize f' (off + k) = z at *
      generalize h k = y at *
      have hsm := take_small hx hyl hcc
      have hw : IntKind.u64.wrap ((y : Int) * (x : Int)) = ((y * x : Nat) : Int) := wrap_u64_of (by simp) (by omega)
      generalize y * x = p at *
      have HS2 := hide (unhide HS ((z + 4294967296 - (cc + p) % 4294967296 - bo') % 4294967296) (bor z ((cc + p) % 4294967296) bo') (Nat.mod_lt _ (by decide)) (bor_le _ _ _) (bor_eq _ _ _ hzl (Nat.mod_lt _ (by decide)) hbo))
      have HSUB := hide (fun (w' : World) => sub32_any z ((cc + p) % 4294967296) bo' w' hzl (Nat.mod_lt _ (by decide)) hbo)
      clear HS
      go_wp2_with fail
      rw [show (((cc : Int) + (p : Int)) % 4294967296) = (((cc + p) % 4294967296 : Nat) : Int) from by omega]
      refine (unhide HSUB _).mono ?_
      rintro e w2 ⟨rfl, rfl⟩
      have HRS := hide ((unhide HR).set (i := off + k) (by omega) ((z + 4294967296 - (cc + p) % 4294967296 - bo') % 4294967296))
      generalize (z + 4294967296 - (cc + p) % 4294967296 - bo') % 4294967296 = dd at *
      generalize bor z ((cc + p) % 4294967296) bo' = bb2 at *
      go_wp2_with fail
      go_roundw
      case rel => exact ⟨k + 1, _, _, _, by omega, by go_num, by go_num, rfl, unhide HRS, (unhide HO).setCell _ _, unhide HS2⟩
      case measure => simp [intOf]; omega
    · obtain rfl : k = n := by omega
      have hz := hr.cell (i := off + k) (by omega)
      have hfr := hr.free (off + k)
      have hzl : f' (off + k) < 4294967296 := hrl.2.2.2.1 k (by omega)
      have HS2 := hide (hrl.last (z := f' (off + k)) rfl (Nat.mod_lt _ (by decide)) (bor_eq (f' (off + k)) cc bo' hzl hcc hbo))
      have HSUB := hide (fun (w' : World) => sub32_any (f' (off + k)) cc bo' w' hzl hcc hbo)
      have HBL := hide (bor_le (f' (off + k)) cc bo')
      have HR := hide hr
      have HO := hide ho
      clear hrl hr ho hc hh hf hrow
      generalize f' (off + k) = z at *
      go_wp2_with fail
      refine (unhide HSUB _).mono ?_
      rintro e w2 ⟨rfl, rfl⟩
      have HRS := hide ((unhide HR).set (i := off + k) (by omega) ((z + 4294967296 - cc - bo') % 4294967296))
      generalize (z + 4294967296 - cc - bo') % 4294967296 = dd at *
      generalize bor z cc bo' = bb2 at *
      go_wp2_with fail
      go_ret
      exact ⟨bb2, _, ret_bool (cast_bne bb2), unhide HBL, unhide HRS, (unhide HO).setCell _ _, (unhide HS2).1, (unhide HS2).2.1, (unhide HS2).2.2⟩

/-- The memory is the same; at the most something was drawn. -/
structure Still (w w' : World) : Prop where
  os : w'.os = w.os
  tape : w'.tape = w.tape
  output : w'.output = w.output
  heap : w'.heap = w.heap
theorem Still.refl (w : World) : Still w w := ⟨rfl, rfl, rfl, rfl⟩
theorem Still.drew {w w' : World} (h : Still w w') : Still w w'.drew := ⟨h.os, h.tape, h.output, h.heap⟩

/-- q is the quotient; where the loop stands: first times the guess, and what is left, make the head; the guess is not below q. -/
def GuessRel (first head q g l : Nat) : Prop := g * first + l = head ∧ q ≤ g ∧ l < 4294967296

theorem GuessRel.down {first second head next q g l : Nat} (r : GuessRel first head q g l) (hq : q * (first * 4294967296 + second) ≤ head * 4294967296 + next) (hqB : q < 4294967296)
    (hc : 4294967296 ≤ g ∨ l * 4294967296 + next < g * second) : 1 ≤ g ∧ (g - 1) * first + (l + first) = head ∧ q ≤ g - 1 := by
  obtain ⟨h1, h2, h3⟩ := r
  have hlt : q < g := by
    apply Nat.lt_of_not_le
    intro hle
    have e : g = q := by omega
    subst e
    rcases hc with hc | hc
    · omega
    · have e1 : g * (first * 4294967296 + second) = g * first * 4294967296 + g * second := by rw [Nat.mul_add, Nat.mul_assoc]
      rw [e1, ← h1, Nat.add_mul] at hq
      omega
  refine ⟨by omega, ?_, by omega⟩
  obtain ⟨k, rfl⟩ : ∃ k, g = k + 1 := ⟨g - 1, by omega⟩
  rw [Nat.add_sub_cancel]
  rw [Nat.add_mul, Nat.one_mul] at h1
  omega

theorem GuessRel.ok {first second head next g l : Nat} (h1 : g * first + l = head) (hc : g * second ≤ l * 4294967296 + next) : g * (first * 4294967296 + second) ≤ head * 4294967296 + next := by
  rw [Nat.mul_add, ← Nat.mul_assoc, ← h1, Nat.add_mul]
  omega

theorem GuessRel.out {first second head next g l : Nat} (h1 : g * first + l = head) (hl : 4294967296 ≤ l) (hs : second < 4294967296) (hh : head < first * 4294967296 + 4294967296) :
    g < 4294967296 ∧ g * second ≤ l * 4294967296 + next := by
  have hg : g < 4294967296 := by
    apply Nat.lt_of_not_le
    intro hle
    have : 4294967296 * first ≤ g * first := Nat.mul_le_mul_right _ hle
    omega
  refine ⟨hg, ?_⟩
  have h2 : g * second ≤ 4294967296 * 4294967296 := Nat.mul_le_mul (by omega) (by omega)
  have h3 : 4294967296 * 4294967296 ≤ l * 4294967296 := Nat.mul_le_mul_right _ hl
  omega

set_option maxHeartbeats 2000000 in
theorem guess_core (b off b2 off2 n n1 n2 cap cap2 first second u0 u1 u2 head q : Nat) (w : World) (hhead : head = u0 * 4294967296 + u1) (hn1 : n1 + 1 = n) (hn2 : n2 + 2 = n) (hnl : n ≤ 9000000000000000000)
    (c1 : w.cell? ⟨b2, off2 + n1, none⟩ = some (.int .u32 first)) (c2 : w.cell? ⟨b2, off2 + n2, none⟩ = some (.int .u32 second))
    (c3 : w.cell? ⟨b, off + n, none⟩ = some (.int .u32 u0)) (c4 : w.cell? ⟨b, off + n1, none⟩ = some (.int .u32 u1)) (c5 : w.cell? ⟨b, off + n2, none⟩ = some (.int .u32 u2))
    (f1 : first < 4294967296) (f2 : second < 4294967296) (f3 : u0 < 4294967296) (f4 : u1 < 4294967296) (f5 : u2 < 4294967296) (hfirst : 0 < first)
    (hq : q * (first * 4294967296 + second) ≤ head * 4294967296 + u2) (hqB : q < 4294967296) (hu : u0 ≤ first) :
    Calls Tryd.prog 121 #[.slice (some ⟨b, off, none⟩) (n + 1) cap, .slice (some ⟨b2, off2, none⟩) n cap2] w fun e w' => ∃ gg : Nat, e = .returned (.int .u32 gg) ∧ Still w w' ∧ q ≤ gg ∧ gg < 4294967296 ∧
      gg * (first * 4294967296 + second) ≤ head * 4294967296 + u2 := by
  have HQ := hide hq
  have hw1 : IntKind.i64.wrap ((n : Int) - 1) = (n1 : Int) := by
    simp only [IntKind.wrap, IntKind.bits, IntKind.signed]; simp; omega
  have hw2 : IntKind.i64.wrap ((n : Int) - 2) = (n2 : Int) := by
    simp only [IntKind.wrap, IntKind.bits, IntKind.signed]; simp; omega
  have i1 : (0 : Int) ≤ (n1 : Int) := by omega
  have i2 : (n1 : Int) < (n : Int) := by omega
  have i3 : (0 : Int) ≤ (n2 : Int) := by omega
  have i4 : (n2 : Int) < (n : Int) := by omega
  have i5 : (n1 : Int) < (n : Int) + 1 := by omega
  have i6 : (0 : Int) ≤ (n : Int) := by omega
  have i7 : (n : Int) < (n : Int) + 1 := by omega
  have ho := head_or u0 u1 f3 f4
  have hc5 : w.cell? ⟨b, off + (n - 2), none⟩ = some (.int .u32 u2) := by rw [show n - 2 = n2 from by omega]; exact c5
  clear hq
  have hhl : head < first * 4294967296 + 4294967296 := by
    have : u0 * 4294967296 ≤ first * 4294967296 := Nat.mul_le_mul_right _ hu
    omega
  have hh64 : head < 18446744073709551616 := by omega
  have HEAD := hide (show ((u0 : Int) * 4294967296 + (u1 : Int)) = (head : Int) by rw [hhead]; simp)
  clear hhead
  have hf0 : (0 : Int) < (first : Int) := by omega
  go_enter Tryd.func121, Tryd.ntmps121
  go_wp2
  go_region
  all_goals go_wp2
  all_goals go_region
  all_goals go_wp2
  clear ho hw1 hw2 i1 i2 i3 i4 i5 i6 i7 hc5 c1 c2 c3 c4 c5
  rw [unhide HEAD]
  clear HEAD
  go_region
  all_goals go_wp2
  go_loop [10, 11] (fun t10 t11 => ∃ g l : Nat, t10 = .int .u64 g ∧ t11 = .int .u64 l ∧ g ≤ head ∧ GuessRel first head q g l) (fun t10 _ => (intOf t10).toNat)
  case atStart => exact ⟨head / first, head % first, congrArg (Value.int .u64) (wrap_u64_of (p := head / first) (by simp) (Nat.lt_of_le_of_lt (Nat.div_le_self _ _) hh64)), by simp, Nat.div_le_self _ _, by rw [Nat.mul_comm]; exact Nat.div_add_mod _ _, by
      rw [Nat.le_div_iff_mul_le hfirst]
      have h1 := unhide HQ
      rw [Nat.mul_add, ← Nat.mul_assoc] at h1
      have h2 : q * first * 4294967296 < (head + 1) * 4294967296 := by omega
      have h3 := Nat.lt_of_mul_lt_mul_right h2
      omega, Nat.lt_trans (Nat.mod_lt _ hfirst) f1⟩
  case round =>
    obtain ⟨g, l, rfl, rfl, hgh, hrl⟩ := hrel
    have hll : l < 4294967296 := hrl.2.2
    have HRL := hide hrl
    have hq1 := hrl.2.1
    clear hrl
    by_cases hbig : 4294967296 ≤ g
    · have HD := hide ((unhide HRL).down (unhide HQ) hqB (.inl hbig))
      by_cases hbr : 4294967296 ≤ l + first
      · go_wp2
        go_ret
        obtain ⟨d1, d2, d3⟩ := unhide HD
        obtain ⟨o1, o2⟩ := GuessRel.out (next := u2) d2 hbr f2 hhl
        exact ⟨g - 1, ret_num (by omega), by repeat (first | exact Still.refl _ | apply Still.drew), d3, o1, GuessRel.ok d2 o2⟩
      · have hg1 : 1 ≤ g := by omega
        go_wp2
        go_round
        case rel => exact ⟨g - 1, l + first, by go_num, by go_num, by omega, (unhide HD).2.1, (unhide HD).2.2, by omega⟩
        case measure => simp [intOf]; omega
    · have hpl : g * second ≤ 4294967295 * 4294967295 := Nat.mul_le_mul (by omega) (by omega)
      have hw : IntKind.u64.wrap ((g : Int) * (second : Int)) = ((g * second : Nat) : Int) := wrap_u64_of (by simp) (by omega)
      have hor := head_or l u2 hll f5
      by_cases hc : l * 4294967296 + u2 < g * second
      · have HD := hide ((unhide HRL).down (unhide HQ) hqB (.inr hc))
        have hg1 : 1 ≤ g := (unhide HD).1
        generalize g * second = gs at *
        by_cases hbr : 4294967296 ≤ l + first
        · go_wp2
          go_ret
          obtain ⟨d1, d2, d3⟩ := unhide HD
          obtain ⟨o1, o2⟩ := GuessRel.out (next := u2) d2 hbr f2 hhl
          exact ⟨g - 1, ret_num (by omega), by repeat (first | exact Still.refl _ | apply Still.drew), d3, o1, GuessRel.ok d2 o2⟩
        · go_wp2
          go_round
          case rel => exact ⟨g - 1, l + first, by go_num, by go_num, by omega, (unhide HD).2.1, (unhide HD).2.2, by omega⟩
          case measure => simp [intOf]; omega
      · have HOK := hide (GuessRel.ok (next := u2) (unhide HRL).1 (Nat.le_of_not_lt hc))
        generalize g * second = gs at *
        go_wp2
        go_ret
        exact ⟨g, ret_num (by omega), by repeat (first | exact Still.refl _ | apply Still.drew), hq1, by omega, unhide HOK⟩

end Go.Proofs.YtjbocfhmfidjjaaDoor
