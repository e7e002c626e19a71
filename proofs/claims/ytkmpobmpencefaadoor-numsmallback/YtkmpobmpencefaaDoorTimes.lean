/-
  What is proved here: nat.addTimes adds a multiple of one row of limbs to another in place, and nat.times answers the canonical limbs of the product of two numbers, in new memory.
-/
import Derived.Test.YtkmpobmpencefaaDoorMulMath
import Derived.Test.YtkmpobmpencefaaDoorAdd
namespace Go.Proofs.YtkmpobmpencefaaDoor
open Go Go.RowKit

theorem wrap_u64_of {a : Int} {p : Nat} (h : a = (p : Int)) (hp : p < 18446744073709551616) : IntKind.u64.wrap a = (p : Int) := by
  subst h
  simp only [IntKind.wrap, IntKind.bits, IntKind.signed]
  simp
  omega

theorem ret_num {k : IntKind} {a b : Int} (h : a = b) : Ending.returned (.int k a) = .returned (.int k b) := by rw [h]

set_option maxHeartbeats 1000000 in
theorem addTimes_any (g off N K n cap capb x : Nat) (f h : Nat → Nat) (bo : Option Addr) (w : World)
    (hrow : RowAt .u32 64 w g N K f) (hoff : off + n ≤ K) (hb : Rd .u32 w bo n h) (hsep : ∀ a, bo = some a → n ≠ 0 → a.block ≠ g) (hn : n ≤ 9223372036854775807) (hx : x < 4294967296)
    (hf : ∀ i, i < n → f (off + i) < 4294967296) (hh : ∀ i, i < n → h i < 4294967296) (hn0 : 0 < n) :
    Calls Tryd.prog 128 #[.slice (some ⟨g, off, none⟩) n cap, .slice bo n capb, .int .u32 x] w fun e w' => ∃ (f' : Nat → Nat) (c : Nat), e = .returned (.int .u32 c) ∧ RowAt .u32 64 w' g N K f' ∧ Only g w w' ∧ TimesRel f h x off n n f' c := by
  rcases hb with hb | ⟨b, offb, rfl, hc⟩
  · omega
  have hbg : b ≠ g := hsep _ rfl (by omega)
  clear hsep
  go_enter Tryd.func128, Tryd.ntmps128
  go_wp2
  go_loopw [7, 11] (fun c t wr => ∃ (k : Nat) (f' : Nat → Nat) (cc : Nat), k ≤ n ∧ t = .int .i64 k ∧ c = .int .u64 cc ∧ RowAt .u32 64 wr g N K f' ∧ Only g w wr ∧ TimesRel f h x off n k f' cc) (fun _ t _ => n - (intOf t).toNat)
  case atStart => exact ⟨0, f, 0, Nat.zero_le _, rfl, rfl, hrow, Only.refl _ _, TimesRel.start hf⟩
  case round =>
    obtain ⟨k, f', cc, hk, rfl, rfl, hr, ho, hrl⟩ := hrel
    have hcc : cc < 4294967296 := hrl.1
    by_cases hlt : k < n
    · have hz := hr.cell (i := off + k) (by omega)
      have hfr := hr.free (off + k)
      have hy := (ho.cell (p := ⟨b, offb + k, none⟩) hbg).trans (hc k hlt)
      have hzl : f' (off + k) < 4294967296 := hrl.2.2.1 k (by omega)
      have hyl := hh k hlt
      have HS := hide (hrl.step (z := f' (off + k)) (y := h k) (by omega) hx rfl rfl hyl)
      have HR := hide hr
      have HO := hide ho
      clear hrl hr ho hc hh hf hrow
      generalize f' (off + k) = z at *
      generalize h k = y at *
      have hsm := times_small hx hyl hzl hcc
      have hw : IntKind.u64.wrap ((y : Int) * (x : Int)) = ((y * x : Nat) : Int) := wrap_u64_of (by simp) (by omega)
      generalize y * x = p at *
      go_wp2
      go_region
      all_goals go_wp2
      all_goals go_roundw
      case rel =>
        have e1 : ((cc : Int) + ((p : Int) + (z : Int))) % 4294967296 = (((cc + (p + z)) % 4294967296 : Nat) : Int) := by omega
        rw [e1]
        exact ⟨k + 1, _, _, by omega, by go_num, by go_num, (unhide HR).set (by omega) _, ((unhide HO).setCell _ _).drew, unhide HS⟩
      case measure => simp [intOf]; omega
    · have hkm : k = n := by omega
      subst hkm
      go_wp2
      go_ret
      refine ⟨f', cc, ?_, hr, ho, hrl⟩
      exact ret_num (by omega)

/-- A slice that was cut short at noughts. -/
theorem mul_digits {f : Nat → Nat} {n m : Nat} (hm : m ≤ n) (hz : ∀ i, m ≤ i → i < n → f i = 0) : num 4294967296 f n = num 4294967296 f m := num_tail hm hz

set_option maxHeartbeats 2000000 in
theorem times_any (v u : Value) (n m : Nat) (f h : Nat → Nat) (w : World) (hv : Sl .u32 w v n f) (hu : Sl .u32 w u m h) (hf : ∀ i, i < n → f i < 4294967296) (hh : ∀ i, i < m → h i < 4294967296)
    (hnm : 4 * (n + m) ≤ 281474976710656) :
    Calls Tryd.prog 117 #[v, u] w fun e w' => ∃ v' n' f', e = .returned v' ∧ Own .u32 64 w' w.heap.size v' n' f' ∧ Below w.heap.size w w' ∧ Can 4294967296 f' n' ∧ n' ≤ n + m ∧
      num 4294967296 f' n' = num 4294967296 f n * num 4294967296 h m := by
  obtain ⟨ao, cap, rfl, h1, h2, h0, h3⟩ := hv
  obtain ⟨bo, capb, rfl, g1, g2, g0, g3⟩ := hu
  clear h0 g0
  go_enter Tryd.func117, Tryd.ntmps117
  go_wp2_with fail
  refine (trim_any _ _ _ f _ h3 h1 h2).mono ?_
  rintro e w1 ⟨rfl, p, hp, rfl, zp, tp⟩
  go_wp2_with fail
  refine (trim_any _ _ _ h _ g3 g1 g2).mono ?_
  rintro e w1 ⟨rfl, q, hq, rfl, zq, tq⟩
  have HE1 := hide (num_tail (B := 4294967296) hp zp)
  have HE2 := hide (num_tail (B := 4294967296) hq zq)
  replace h3 := h3.mono hp
  replace g3 := g3.mono hq
  replace hf : ∀ i, i < p → f i < 4294967296 := fun i hi => hf i (by omega)
  replace hh : ∀ i, i < q → h i < 4294967296 := fun i hi => hh i (by omega)
  clear zp zq tp tq
  by_cases hp0 : p = 0
  · subst hp0
    go_wp2_with fail
    go_ret
    refine ⟨_, 0, fun _ => 0, rfl, .inl ⟨rfl, rfl⟩, Below.refl _ _, ⟨fun i hi => by omega, .inl rfl⟩, by omega, ?_⟩
    rw [unhide HE1]
    simp [num]
  have hb1 : ((p : Int) == 0) = false := beq_eq_false_iff_ne.2 (by omega)
  by_cases hq0 : q = 0
  · subst hq0
    go_wp2_with fail
    go_ret
    refine ⟨_, 0, fun _ => 0, rfl, .inl ⟨rfl, rfl⟩, Below.refl _ _, ⟨fun i hi => by omega, .inl rfl⟩, by omega, ?_⟩
    rw [unhide HE2]
    simp [num]
  have hb2 : ((q : Int) == 0) = false := beq_eq_false_iff_ne.2 (by omega)
  have sep := g3.apart (Nat.le_refl _)
  go_wp2_with (at_make; refine wpList_mkU rfl _ _ rfl .i64 .i64 _ _ (p + q) rfl rfl (by omega) (by omega) (by omega) ?_; intro w2 hr2 hb2)
  rcases h3 with h3 | ⟨ba, offa, rfl, hca⟩
  · exact absurd h3 hp0
  go_loopw [28] (fun t wr => ∃ (i : Nat) (f' : Nat → Nat), i ≤ p ∧ t = .int .i64 i ∧ RowAt .u32 64 wr w1.heap.size (p + q) (p + q) f' ∧ Below w1.heap.size w1 wr ∧ (∀ i, i < p + q → f' i < 4294967296) ∧ (∀ j, i + q ≤ j → f' j = 0) ∧ num 4294967296 f' (p + q) = num 4294967296 f i * num 4294967296 h q) (fun t _ => p - (intOf t).toNat)
  case atStart => exact ⟨0, fun _ => 0, Nat.zero_le _, rfl, hr2, hb2, fun _ _ => (by decide : (0 : Nat) < 4294967296), fun _ _ => rfl, by rw [num_tail (n := 0) (by omega) (fun _ _ _ => rfl)]; simp [num]⟩
  case round =>
    obtain ⟨i, f', hi, rfl, hr, hb, hd, hz, hsum⟩ := hrel
    have HSUM := hide hsum
    clear hsum hr2 hb2
    by_cases hip : i < p
    · have hx := (hb.cell (p := ⟨ba, offa + i, none⟩) (Rd.lt hca (by omega))).trans (hca i hip)
      have hxl := hf i hip
      have hmul : num 4294967296 f (i + 1) * num 4294967296 h q = num 4294967296 f i * num 4294967296 h q + f i * num 4294967296 h q * 4294967296 ^ i := by
        rw [num_succ, Nat.add_mul, Nat.mul_assoc (f i), Nat.mul_comm (4294967296 ^ i), ← Nat.mul_assoc]
      have HM := hide hmul
      clear hmul hca
      generalize f i = x at *
      go_wp2_with fail
      refine (addTimes_any _ i (p + q) (p + q) q _ _ x f' h _ _ hr (by omega) (g3.below hb (Nat.le_refl _)) sep (by omega) hxl (fun j hj => hd _ (by omega)) hh (by omega)).mono ?_
      rintro e w3 ⟨f3, c, rfl, hr3, ho3, ht⟩
      have hb3 := Only.below hb ho3 (Nat.le_refl _)
      have hcell := hr3.cell (i := i + q) (by omega)
      have hfr := hr3.free (i + q)
      have HR := hide (times_row (N := p + q) ht (by omega) hz rfl)
      have hcl : c < 4294967296 := ht.1
      have HD := hide (fun j (hj : j < p + q) => show upd f3 (i + q) c j < 4294967296 by
        by_cases e : j = i + q
        · rw [e, upd_same]; exact hcl
        · rw [upd_other e]
          by_cases e2 : i ≤ j ∧ j < i + q
          · have := ht.2.2.1 (j - i) (by omega)
            rwa [show i + (j - i) = j from by omega] at this
          · rw [ht.2.1 j e2]; exact hd j hj)
      have HR3 := hide (hr3.set (i := i + q) (by omega) c)
      clear hr hb ho3 ht hz hd hr3
      go_wp2_with fail
      go_roundw
      case rel => exact ⟨i + 1, _, by omega, by go_num, unhide HR3, hb3.setCell (Nat.le_refl _) _, unhide HD, fun j hj => (unhide HR).2 j (by omega), by rw [(unhide HR).1, unhide HSUM, unhide HM]⟩
      case measure => simp [intOf]; omega
    · have hip' : i = p := by omega
      subst hip'
      go_wp2_with fail
      refine (trim_any _ _ _ f' _ hr.rd (Nat.le_refl _) (by omega)).mono ?_
      rintro e w5 ⟨rfl, m', hm', rfl, hzz, ht⟩
      go_wp2_with fail
      go_ret
      exact ⟨_, m', f', rfl, (hr.mono hm').own (Nat.le_refl _) (by omega), hb, can_of_trim hd hm' ht, by omega, by rw [← num_tail hm' hzz, unhide HSUM, unhide HE1, unhide HE2]⟩

end Go.Proofs.YtkmpobmpencefaaDoor
