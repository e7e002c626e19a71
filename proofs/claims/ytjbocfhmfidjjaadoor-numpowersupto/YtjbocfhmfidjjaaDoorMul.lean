/-
  What is proved here: plain facts on multiplying digit by digit; no walk. nat.addTimes adds a multiple of one row of limbs to another in place, and nat.times answers the canonical limbs of the product of two numbers, in new memory. nat.product and nat.Mul answer the limbs of the product of all that they are handed.
-/
import Derived.Test.YtjbocfhmfidjjaaDoorAdd
import Derived.Deep.RegionWith
namespace Go.Proofs.YtjbocfhmfidjjaaDoor
open Go Go.RowKit

/-- Behind k digits: the row from 'off' on holds f's digits and x times h's, but for the carry c. -/
def TimesRel (f h : Nat → Nat) (x off n k : Nat) (f' : Nat → Nat) (c : Nat) : Prop :=
  c < 4294967296 ∧ (∀ i, ¬ (off ≤ i ∧ i < off + k) → f' i = f i) ∧ (∀ i, i < n → f' (off + i) < 4294967296) ∧
  num 4294967296 (fun i => f' (off + i)) k + c * 4294967296 ^ k = num 4294967296 (fun i => f (off + i)) k + x * num 4294967296 h k

theorem TimesRel.start {f h : Nat → Nat} {x off n : Nat} (hf : ∀ i, i < n → f (off + i) < 4294967296) : TimesRel f h x off n 0 f 0 :=
  ⟨by omega, fun _ _ => rfl, hf, by simp [num]⟩

theorem times_small {x y z c : Nat} (hx : x < 4294967296) (hy : y < 4294967296) (hz : z < 4294967296) (hc : c < 4294967296) : c + (y * x + z) < 18446744073709551616 := by
  have : y * x ≤ 4294967295 * 4294967295 := Nat.mul_le_mul (by omega) (by omega)
  omega

theorem TimesRel.step {f h f' : Nat → Nat} {x off n k c y z : Nat} (r : TimesRel f h x off n k f' c) (_hk : k < n) (hx : x < 4294967296) (hz : f' (off + k) = z) (hy : h k = y) (hyl : y < 4294967296) :
    TimesRel f h x off n (k + 1) (upd f' (off + k) ((c + (y * x + z)) % 4294967296)) ((c + (y * x + z)) / 4294967296) := by
  obtain ⟨h1, h2, h3, h4⟩ := r
  have hzl : z < 4294967296 := by rw [← hz]; exact h3 k (by omega)
  have hs := times_small hx hyl hzl h1
  refine ⟨by omega, fun i hi => ?_, fun i hi => ?_, ?_⟩
  · rw [upd_other (by omega)]
    exact h2 i (by omega)
  · by_cases e : i = k
    · rw [e, upd_same]; exact Nat.mod_lt _ (by decide)
    · rw [upd_other (by omega)]; exact h3 i hi
  · rw [num_succ, num_succ, num_succ, upd_same]
    rw [num_congr (g := fun i => f' (off + i)) (fun i hi => upd_other (by omega))]
    have e1 : f (off + k) = z := by rw [← hz]; exact (h2 _ (by omega)).symm
    rw [e1, hy, Nat.pow_succ]
    generalize 4294967296 ^ k = P at *
    generalize hS : c + (y * x + z) = S at *
    have e2 : S % 4294967296 * P + S / 4294967296 * (P * 4294967296) = S * P := by
      rw [Nat.mul_comm P, ← Nat.mul_assoc, ← Nat.add_mul, Nat.mul_comm _ 4294967296, Nat.mod_add_div]
    rw [← hS, Nat.add_mul, Nat.add_mul] at e2
    have e3 : x * (num 4294967296 h k + y * P) = x * num 4294967296 h k + y * x * P := by
      rw [Nat.mul_add, ← Nat.mul_assoc, Nat.mul_comm x y]
    rw [e3]
    rw [hS] at e2
    omega

/-- One row of the schoolbook's product: the limb behind the row, which was 0, takes the carry. -/
theorem times_row {f h f' : Nat → Nat} {x i N n A b : Nat} (r : TimesRel f h x i n n f' A) (hN : i + n + 1 ≤ N) (hz : ∀ j, i + n ≤ j → f j = 0) (hb : num 4294967296 f N = b) :
    num 4294967296 (upd f' (i + n) A) N = b + x * num 4294967296 h n * 4294967296 ^ i ∧ (∀ j, i + n + 1 ≤ j → upd f' (i + n) A j = 0) := by
  obtain ⟨h1, h2, h3, h4⟩ := r
  have hz' : ∀ j, i + n + 1 ≤ j → upd f' (i + n) A j = 0 := fun j hj => by
    rw [upd_other (by omega), h2 j (by omega)]
    exact hz j (by omega)
  refine ⟨?_, hz'⟩
  rw [num_tail (n := i + n + 1) hN (fun j hj _ => hz' j hj), num_succ, upd_same, num_split]
  rw [num_tail (n := i + n) (by omega) (fun j hj _ => hz j hj), num_split] at hb
  rw [num_congr (g := f) (n := i) (fun j hj => by rw [upd_other (by omega)]; exact h2 j (by omega))]
  rw [num_congr (f := fun j => upd f' (i + n) A (i + j)) (g := fun j => f' (i + j)) (n := n) (fun j hj => upd_other (by omega))]
  rw [← hb, Nat.pow_add]
  have e : 4294967296 ^ i * (num 4294967296 (fun j => f' (i + j)) n + A * 4294967296 ^ n) = 4294967296 ^ i * (num 4294967296 (fun j => f (i + j)) n + x * num 4294967296 h n) := by rw [h4]
  rw [Nat.mul_add, Nat.mul_add] at e
  have e2 : A * (4294967296 ^ i * 4294967296 ^ n) = 4294967296 ^ i * (A * 4294967296 ^ n) := by
    rw [← Nat.mul_assoc, Nat.mul_comm A, Nat.mul_assoc]
  have e3 : x * num 4294967296 h n * 4294967296 ^ i = 4294967296 ^ i * (x * num 4294967296 h n) := Nat.mul_comm _ _
  rw [e2, e3]
  omega

theorem wrap_u64_of {a : Int} {p : Nat} (h : a = (p : Int)) (hp : p < 18446744073709551616) : IntKind.u64.wrap a = (p : Int) := by
  subst h
  simp only [IntKind.wrap, IntKind.bits, IntKind.signed]
  simp
  omega

theorem ret_num {k : IntKind} {a b : Int} (h : a = b) : Ending.returned (.int k a) = .returned (.int k b) := by rw [h]

set_option maxHeartbeats 1000000 in
theorem addTimes_any (g off N K n cap capb x : Nat) (f h : Nat → Nat) (bo : Option Addr) (w : World)
    (hrow : RowAt .u32 64 w g N K f) (hoff : off + n ≤ K) (hb : Rd .u32 w bo n h) (hsep : ∀ a, bo = some a → n ≠ 0 → a.block ≠ g) (hn : n ≤ 9223372036854775807) (hx : x < 4294967296)
    (hf : ∀ i, i < n → f (off + i) < 4294967296) (hh : ∀ i, i < n → h i < 4294967296) (hn0 : 0 < n) :
    Calls Tryd.prog 128 #[.slice (some ⟨g, off, none⟩) n cap, .slice bo n capb, .int .u32 x] w fun e w' => ∃ (f' : Nat → Nat) (c : Nat), e = .returned (.int .u32 c) ∧ RowAt .u32 64 w' g N K f' ∧ Only g w w' ∧ TimesRel f h x off n n f' c := by
  rcases hb with hb | ⟨b, offb, rfl, hc⟩
  · omega
  have hbg : b ≠ g := hsep _ rfl (by omega)
  clear hsep
  go_enter Tryd.func128, Tryd.ntmps128
  go_wp2
  go_loopw [7, 11] (fun c t wr => ∃ (k : Nat) (f' : Nat → Nat) (cc : Nat), k ≤ n ∧ t = .int .i64 k ∧ c = .int .u64 cc ∧ RowAt .u32 64 wr g N K f' ∧ Only g w wr ∧ TimesRel f h x off n k f' cc) (fun _ t _ => n - (intOf t).toNat)
  case atStart => exact ⟨0, f, 0, Nat.zero_le _, rfl, rfl, hrow, Only.refl _ _, TimesRel.start hf⟩
  case round =>
    obtain ⟨k, f', cc, hk, rfl, rfl, hr, ho, hrl⟩ := hrel
    have hcc : cc < 4294967296 := hrl.1
    by_cases hlt : k < n
    · have hz := hr.cell (i := off + k) (by omega)
      have hfr := hr.free (off + k)
      have hy := (ho.cell (p := ⟨b, offb + k, none⟩) hbg).trans (hc k hlt)
      have hzl : f' (off + k) < 4294967296 := hrl.2.2.1 k (by omega)
      have hyl := hh k hlt
      have HS := hide (hrl.step (z := f' (off + k)) (y := h k) (by omega) hx rfl rfl hyl)
      have HR := hide hr
      have HO := hide ho
      clear hrl hr ho hc hh hf hrow
      generalize f' (off + k) = z at *
      generalize h k = y at *
      have hsm := times_small hx hyl hzl hcc
      have hw : IntKind.u64.wrap ((y : Int) * (x : Int)) = ((y * x : Nat) : Int) := wrap_u64_of (by simp) (by omega)
      generalize y * x = p at *
      go_wp2
      go_region
      all_goals go_wp2
      all_goals go_roundw
      case rel =>
        have e1 : ((cc : Int) + ((p : Int) + (z : Int))) % 4294967296 = (((cc + (p + z)) % 4294967296 : Nat) : Int) := by omega
        rw [e1]
        exact ⟨k + 1, _, _, by omega, by go_num, by go_num, (unhide HR).set (by omega) _, ((unhide HO).setCell _ _).drew, unhide HS⟩
      case measure => simp [intOf]; omega
    · have hkm : k = n := by omega
      subst hkm
      go_wp2
      go_ret
      refine ⟨f', cc, ?_, hr, ho, hrl⟩
      exact ret_num (by omega)

/-- A slice that was cut short at noughts. -/
theorem mul_digits {f : Nat → Nat} {n m : Nat} (hm : m ≤ n) (hz : ∀ i, m ≤ i → i < n → f i = 0) : num 4294967296 f n = num 4294967296 f m := num_tail hm hz

set_option maxHeartbeats 2000000 in
theorem times_any (v u : Value) (n m : Nat) (f h : Nat → Nat) (w : World) (hv : Sl .u32 w v n f) (hu : Sl .u32 w u m h) (hf : ∀ i, i < n → f i < 4294967296) (hh : ∀ i, i < m → h i < 4294967296)
    (hnm : 4 * (n + m) ≤ 281474976710656) :
    Calls Tryd.prog 117 #[v, u] w fun e w' => ∃ v' n' f', e = .returned v' ∧ Own .u32 64 w' w.heap.size v' n' f' ∧ Below w.heap.size w w' ∧ Can 4294967296 f' n' ∧ n' ≤ n + m ∧
      num 4294967296 f' n' = num 4294967296 f n * num 4294967296 h m := by
  obtain ⟨ao, cap, rfl, h1, h2, h0, h3⟩ := hv
  obtain ⟨bo, capb, rfl, g1, g2, g0, g3⟩ := hu
  clear h0 g0
  go_enter Tryd.func117, Tryd.ntmps117
  go_wp2_with fail
  refine (trim_any _ _ _ f _ h3 h1 h2).mono ?_
  rintro e w1 ⟨rfl, p, hp, rfl, zp, tp⟩
  go_wp2_with fail
  refine (trim_any _ _ _ h _ g3 g1 g2).mono ?_
  rintro e w1 ⟨rfl, q, hq, rfl, zq, tq⟩
  have HE1 := hide (num_tail (B := 4294967296) hp zp)
  have HE2 := hide (num_tail (B := 4294967296) hq zq)
  replace h3 := h3.mono hp
  replace g3 := g3.mono hq
  replace hf : ∀ i, i < p → f i < 4294967296 := fun i hi => hf i (by omega)
  replace hh : ∀ i, i < q → h i < 4294967296 := fun i hi => hh i (by omega)
  clear zp zq tp tq
  by_cases hp0 : p = 0
  · subst hp0
    go_wp2_with fail
    go_ret
    refine ⟨_, 0, fun _ => 0, rfl, .inl ⟨rfl, rfl⟩, Below.refl _ _, ⟨fun i hi => by omega, .inl rfl⟩, by omega, ?_⟩
    rw [unhide HE1]
    simp [num]
  have hb1 : ((p : Int) == 0) = false := beq_eq_false_iff_ne.2 (by omega)
  by_cases hq0 : q = 0
  · subst hq0
    go_wp2_with fail
    go_ret
    refine ⟨_, 0, fun _ => 0, rfl, .inl ⟨rfl, rfl⟩, Below.refl _ _, ⟨fun i hi => by omega, .inl rfl⟩, by omega, ?_⟩
    rw [unhide HE2]
    simp [num]
  have hb2 : ((q : Int) == 0) = false := beq_eq_false_iff_ne.2 (by omega)
  have sep := g3.apart (Nat.le_refl _)
  go_wp2_with (at_make; refine wpList_mkU rfl _ _ rfl .i64 .i64 _ _ (p + q) rfl rfl (by omega) (by omega) (by omega) ?_; intro w2 hr2 hb2)
  rcases h3 with h3 | ⟨ba, offa, rfl, hca⟩
  · exact absurd h3 hp0
  go_loopw [28] (fun t wr => ∃ (i : Nat) (f' : Nat → Nat), i ≤ p ∧ t = .int .i64 i ∧ RowAt .u32 64 wr w1.heap.size (p + q) (p + q) f' ∧ Below w1.heap.size w1 wr ∧ (∀ i, i < p + q → f' i < 4294967296) ∧ (∀ j, i + q ≤ j → f' j = 0) ∧ num 4294967296 f' (p + q) = num 4294967296 f i * num 4294967296 h q) (fun t _ => p - (intOf t).toNat)
  case atStart => exact ⟨0, fun _ => 0, Nat.zero_le _, rfl, hr2, hb2, fun _ _ => (by decide : (0 : Nat) < 4294967296), fun _ _ => rfl, by rw [num_tail (n := 0) (by omega) (fun _ _ _ => rfl)]; simp [num]⟩
  case round =>
    obtain ⟨i, f', hi, rfl, hr, hb, hd, hz, hsum⟩ := hrel
    have HSUM := hide hsum
    clear hsum hr2 hb2
    by_cases hip : i < p
    · have hx := (hb.cell (p := ⟨ba, offa + i, none⟩) (Rd.lt hca (by omega))).trans (hca i hip)
      have hxl := hf i hip
      have hmul : num 4294967296 f (i + 1) * num 4294967296 h q = num 4294967296 f i * num 4294967296 h q + f i * num 4294967296 h q * 4294967296 ^ i := by
        rw [num_succ, Nat.add_mul, Nat.mul_assoc (f i), Nat.mul_comm (4294967296 ^ i), ← Nat.mul_assoc]
      have HM := hide hmul
      clear hmul hca
      generalize f i = x at *
      go_wp2_with fail
      refine (addTimes_any _ i (p + q) (p + q) q _ _ x f' h _ _ hr (by omega) (g3.below hb (Nat.le_refl _)) sep (by omega) hxl (fun j hj => hd _ (by omega)) hh (by omega)).mono ?_
      rintro e w3 ⟨f3, c, rfl, hr3, ho3, ht⟩
      have hb3 := Only.below hb ho3 (Nat.le_refl _)
      have hcell := hr3.cell (i := i + q) (by omega)
      have hfr := hr3.free (i + q)
      have HR := hide (times_row (N := p + q) ht (by omega) hz rfl)
      have hcl : c < 4294967296 := ht.1
      have HD := hide (fun j (hj : j < p + q) => show upd f3 (i + q) c j < 4294967296 by
        by_cases e : j = i + q
        · rw [e, upd_same]; exact hcl
        · rw [upd_other e]
          by_cases e2 : i ≤ j ∧ j < i + q
          · have := ht.2.2.1 (j - i) (by omega)
            rwa [show i + (j - i) = j from by omega] at this
          · rw [ht.2.1 j e2]; exact hd j hj)
      have HR3 := hide (hr3.set (i := i + q) (by omega) c)
      clear hr hb ho3 ht hz hd hr3
      go_wp2_with fail
      go_roundw
      case rel => exact ⟨i + 1, _, by omega, by go_num, unhide HR3, hb3.setCell (Nat.le_refl _) _, unhide HD, fun j hj => (unhide HR).2 j (by omega), by rw [(unhide HR).1, unhide HSUM, unhide HM]⟩
      case measure => simp [intOf]; omega
    · have hip' : i = p := by omega
      subst hip'
      go_wp2_with fail
      refine (trim_any _ _ _ f' _ hr.rd (Nat.le_refl _) (by omega)).mono ?_
      rintro e w5 ⟨rfl, m', hm', rfl, hzz, ht⟩
      go_wp2_with fail
      go_ret
      exact ⟨_, m', f', rfl, (hr.mono hm').own (Nat.le_refl _) (by omega), hb, can_of_trim hd hm' ht, by omega, by rw [← num_tail hm' hzz, unhide HSUM, unhide HE1, unhide HE2]⟩

/-- The product of the first k numbers; the sum of the first k numbers. -/
def prodN (F : Nat → Nat) : Nat → Nat
  | 0 => 1
  | k + 1 => prodN F k * F k
def sumN (F : Nat → Nat) : Nat → Nat
  | 0 => 0
  | k + 1 => sumN F k + F k
theorem prodN_split (F : Nat → Nat) (a b : Nat) : prodN F (a + b) = prodN F a * prodN (fun i => F (a + i)) b := by
  induction b with
  | zero => simp [prodN]
  | succ b ih => rw [← Nat.add_assoc, prodN, ih, prodN, Nat.mul_assoc]
theorem sumN_split (F : Nat → Nat) (a b : Nat) : sumN F (a + b) = sumN F a + sumN (fun i => F (a + i)) b := by
  induction b with
  | zero => simp [sumN]
  | succ b ih => rw [← Nat.add_assoc, sumN, ih, sumN, Nat.add_assoc]
theorem sumN_one (F : Nat → Nat) : sumN F 1 = F 0 := by simp [sumN]
theorem prodN_one (F : Nat → Nat) : prodN F 1 = F 0 := by simp [prodN]


set_option maxHeartbeats 2000000 in
theorem product_any (K : Nat) : ∀ (k b off cap : Nat) (vs : Nat → Value) (ns : Nat → Nat) (fs : Nat → Nat → Nat) (w : World), k ≤ K → 1 ≤ k → k ≤ cap → cap ≤ 9223372036854775807 →
    (∀ i, i < k → w.cell? ⟨b, off + i, none⟩ = some (vs i)) → (∀ i, i < k → Sl .u32 w (vs i) (ns i) (fs i)) → (∀ j, j < k → ∀ i, i < ns j → fs j i < 4294967296) → 4 * sumN ns k ≤ 281474976710656 →
    Calls Tryd.prog 102 #[.slice (some ⟨b, off, none⟩) k cap] w fun e w' => ∃ v n f, e = .returned v ∧ Sl .u32 w' v n f ∧ (∀ i, i < n → f i < 4294967296) ∧ Below w.heap.size w w' ∧ n ≤ sumN ns k ∧
      num 4294967296 f n = prodN (fun i => num 4294967296 (fs i) (ns i)) k ∧ (2 ≤ k → Own .u32 64 w' w.heap.size v n f ∧ Can 4294967296 f n) := by
  induction K with
  | zero => intro k b off cap vs ns fs w h1 h2; omega
  | succ K ih =>
    intro k b off cap vs ns fs w hkK hk1 hkc hcm hc hs hd hsz
    by_cases hk : k = 1
    · subst hk
      have hx := hc 0 (by omega)
      rw [Nat.add_zero] at hx
      clear ih hc
      go_enter Tryd.func102, Tryd.ntmps102
      go_wp2_with fail
      go_ret
      exact ⟨_, ns 0, fs 0, rfl, hs 0 (by omega), hd 0 (by omega), Below.refl _ _, by rw [sumN_one]; exact Nat.le_refl _, by rw [prodN_one], fun h => by omega⟩
    · obtain ⟨a, c, rfl, ha, hc1, ha2, hc2⟩ : ∃ a c, k = a + c ∧ 1 ≤ a ∧ 1 ≤ c ∧ 2 * a ≤ k ∧ k ≤ 2 * a + 1 := ⟨k / 2, k - k / 2, by omega, by omega, by omega, by omega, by omega⟩
      have hbq : ((a + c : Int) == 1) = false := beq_eq_false_iff_ne.2 (by omega)
      have hbr : (((a + c : Nat) : Int) == 1) = false := beq_eq_false_iff_ne.2 (by omega)
      have hdv : ((a : Int) + (c : Int)) / 2 = (a : Int) := by omega
      have sB : 4 * (sumN ns a + sumN (fun i => ns (a + i)) c) ≤ 281474976710656 := by rw [sumN_split] at hsz; exact hsz
      have sL : 4 * sumN ns a ≤ 281474976710656 := by rw [sumN_split] at hsz; omega
      have sR : 4 * sumN (fun i => ns (a + i)) c ≤ 281474976710656 := by rw [sumN_split] at hsz; omega
      have L := hide (fun (w' : World) (hb : Below w.heap.size w w') => ih a b off cap vs ns fs w' (by omega) ha (by omega) hcm
        (fun i hi => (hb.cell (p := ⟨b, off + i, none⟩) (World.block_lt_of_cell? w _ (hc i (by omega)))).trans (hc i (by omega)))
        (fun i hi => (hs i (by omega)).below hb (Nat.le_refl _)) (fun j hj => hd j (by omega)) sL)
      have R := hide (fun (w' : World) (hb : Below w.heap.size w w') => ih c b (off + a) (cap - a) (fun i => vs (a + i)) (fun i => ns (a + i)) (fun i => fs (a + i)) w' (by omega) hc1 (by omega) (by omega)
        (fun i hi => by rw [Nat.add_assoc]; exact (hb.cell (p := ⟨b, off + (a + i), none⟩) (World.block_lt_of_cell? w _ (hc (a + i) (by omega)))).trans (hc (a + i) (by omega)))
        (fun i hi => (hs (a + i) (by omega)).below hb (Nat.le_refl _)) (fun j hj => hd (a + j) (by omega)) sR)
      clear ih hc hs hd
      go_enter Tryd.func102, Tryd.ntmps102
      go_wp2_with fail
      rw [show ((a : Int) + (c : Int)) / 2 = (a : Int) from by omega]
      have i1 : (0 : Int) ≤ (a : Int) := by omega
      have i2 : (a : Int) ≤ (cap : Int) := by omega
      have i3 : (a : Int) ≤ (a : Int) + (c : Int) := by omega
      have i4 : ¬ cap = a := by omega
      have b0 : Below w.heap.size w w := Below.refl _ _
      go_region_with (first
        | (go_at_call_of 102 (Value.slice (some ⟨b, off, none⟩) a cap); refine (unhide L _ ?_).mono ?_; (repeat (first | exact b0 | apply Below.drew)); rintro e w1 ⟨v1, n1, f1, rfl, s1, d1, b1, l1, p1, o1⟩; have c1 : Below w.heap.size w w1 := (by first | exact b0.drew.trans b1 | exact b1))
        | (go_at_call 117; refine (times_any _ _ n1 n2 f1 f2 _ t1 s2 d1 d2 (by omega)).mono ?_; rintro e w3 ⟨v3, n3, f3, rfl, o3, b3, k3, l3, p3⟩)
        | (go_at_call_of 102 (Value.slice (some ⟨b, off + a, none⟩) c (cap - a)); refine (unhide R _ ?_).mono ?_; exact c1; rintro e w2 ⟨v2, n2, f2, rfl, s2, d2, b2, l2, p2, o2⟩; have t1 := s1.below b2 (Nat.le_refl _)))
      go_wp2_with fail
      go_ret
      have z1 := c1.size
      have z2 := b2.size
      refine ⟨_, n3, f3, rfl, o3.sl, k3.1, c1.trans ((b2.mono (by omega)).trans (b3.mono (by omega))), by rw [sumN_split]; omega, ?_, fun _ => ⟨o3.mono (by omega), k3⟩⟩
      rw [p3, p1, p2, prodN_split]

/-- Two ahead of a row. -/
def two {α : Type} (a b : α) (s : Nat → α) : Nat → α
  | 0 => a
  | 1 => b
  | i + 2 => s i
theorem two_two {α : Type} (a b : α) (s : Nat → α) (i : Nat) : two a b s (2 + i) = s i := by rw [Nat.add_comm]; rfl

theorem prodN_two (a b : Nat) (F G : Nat → Nat) (k : Nat) (h0 : G 0 = a) (h1 : G 1 = b) (h2 : ∀ i, G (2 + i) = F i) : prodN G (2 + k) = a * b * prodN F k := by
  rw [prodN_split]
  have e : (fun i => G (2 + i)) = F := by funext i; exact h2 i
  rw [e]
  simp [prodN, h0, h1]
theorem sumN_two (a b : Nat) (F G : Nat → Nat) (k : Nat) (h0 : G 0 = a) (h1 : G 1 = b) (h2 : ∀ i, G (2 + i) = F i) : sumN G (2 + k) = a + b + sumN F k := by
  rw [sumN_split]
  have e : (fun i => G (2 + i)) = F := by funext i; exact h2 i
  rw [e]
  simp [sumN, h0, h1]

theorem infoS : (Tryd.prog.info? 24).map (fun i => (i.zero, i.size, i.bytes)) = some (some (.slice none 0 0), 1, 24) := by kernel_rfl

/-- The values of a row, as a list. -/
def valsOf (vs : Nat → Value) (n : Nat) : List Value := (List.range n).map vs
theorem valsOf_length (vs : Nat → Value) (n : Nat) : (valsOf vs n).length = n := by simp [valsOf]
theorem valsOf_get (vs : Nat → Value) (n i : Nat) (h : i < n) : (valsOf vs n)[i]? = some (vs i) := by simp [valsOf, h]

theorem cells_two (w : World) (a b : Value) (E : TypeId) : ∀ j u, [a, b][j]? = some u → (w.alloc (.cells #[a, b] E)).cell? ((⟨w.heap.size, 0, none⟩ : Addr).add j) = some u := by
  intro j u hj
  rw [Addr.add_lit, cell_of_row _ _ _ _ _ _ (heap_alloc_new w _), Nat.zero_add]
  simpa using hj
theorem Rds.cells {w w' : World} {mo : Option Addr} {k : Nat} {vs : Nat → Value} (h : Rds w mo k vs) (hb : Below w.heap.size w w') : ∀ ad, mo = some ad → ∀ j u, (valsOf vs k)[j]? = some u → w'.cell? (ad.add j) = some u := by
  rintro ad rfl j u hj
  have hl : j < k := by
    have := (List.getElem?_eq_some_iff.1 hj).1
    simpa [valsOf] using this
  rcases h.below hb (Nat.le_refl _) with h | ⟨b, off, e, hc⟩
  · omega
  · cases e
    rw [valsOf_get vs k j hl] at hj
    rw [Addr.add_lit, hc j hl]
    exact hj

set_option maxHeartbeats 2000000 in
theorem mul_any (v u : Value) (n m k capm : Nat) (f q : Nat → Nat) (mo : Option Addr) (vs : Nat → Value) (ns : Nat → Nat) (fs : Nat → Nat → Nat) (w : World)
    (hv : Sl .u32 w v n f) (hu : Sl .u32 w u m q) (hm : Rds w mo k vs) (hmn : mo = none → capm = 0) (hs : ∀ i, i < k → Sl .u32 w (vs i) (ns i) (fs i))
    (hf : ∀ i, i < n → f i < 4294967296) (hh : ∀ i, i < m → q i < 4294967296) (hfs : ∀ j, j < k → ∀ i, i < ns j → fs j i < 4294967296)
    (hM : 4 * (n + m + sumN ns k) ≤ 281474976710656) (hk : 24 * (k + 2) ≤ 140737488355328) :
    Calls Tryd.prog 79 #[v, u, .slice mo k capm] w fun e w' => ∃ v' n' f', e = .returned v' ∧ Own .u32 64 w' w.heap.size v' n' f' ∧ Below w.heap.size w w' ∧ Can 4294967296 f' n' ∧ n' ≤ n + m + sumN ns k ∧
      num 4294967296 f' n' = num 4294967296 f n * num 4294967296 q m * prodN (fun i => num 4294967296 (fs i) (ns i)) k := by
  obtain ⟨i, hi, hz0, hz1, hz2⟩ := info_parts infoS
  obtain ⟨ao, cap, ev, -⟩ := id hv
  obtain ⟨bo, capb, eu, -⟩ := id hu
  subst ev eu
  go_enter Tryd.func79, Tryd.ntmps79
  have hone : ∀ u ∈ [Value.slice ao n cap, Value.slice bo m capb], u.oneCell' = true := by
    intro u hu
    simp only [List.mem_cons, List.not_mem_nil, or_false] at hu
    rcases hu with rfl | rfl <;> rfl
  have hone2 : ∀ u ∈ valsOf vs k, u.oneCell' = true := by
    intro u hu
    obtain ⟨j, hj, rfl⟩ := List.mem_map.1 hu
    obtain ⟨ao, cap, e, -⟩ := hs j (by simpa using hj)
    rw [e]
    rfl
  have hnone : mo = none → k = 0 ∧ capm = 0 := by
    intro e
    refine ⟨?_, hmn e⟩
    rcases hm with h | ⟨b, off, e', _⟩
    · exact h
    · rw [e] at e'
      cases e'
  go_wp2_with (first
    | (at_make; refine wpList_make_own _ rfl _ _ 83 rfl w.heap.size 24 i (.slice none 0 0) 1 Tryd.underlying83 hi hz0 hz1 _ _ _ (k + 2) rfl rfl (by omega) (by rw [hz2]; omega) (by unfold maxLen; omega) (Nat.le_refl _) ?_; intro w1 hown1 hgr1; have hb1 := Below.of_grown hgr1; have hz1' := hb1.size)
    | (at_builtin; refine wpList_append_fits _ rfl (.tmp 12) (.tmp 15) 83 rfl w.heap.size 24 i 1 Tryd.underlying83 hi hz1 w.heap.size 0 (k + 2) [] rfl (hown1.alloc _) ⟨w1.heap.size, 0, none⟩ 2 2 [.slice ao n cap, .slice bo m capb] rfl rfl (cells_two _ _ _ _) hone (by omega) ?_; intro w2 hown2 hgr2; simp only [Nat.zero_add, List.nil_append] at hown2; have hb2 := (hb1.alloc hz1' _).grown hgr2 (by simp; omega) (fun j hj => by cases hj; exact Nat.le_refl _); clear hown1 hgr1 hgr2 hb1)
    | (at_builtin; refine wpList_append_fits_any _ rfl (.tmp 17) (.tmp 18) 83 rfl w.heap.size 24 i 1 Tryd.underlying83 hi hz1 w.heap.size 2 (k + 2) _ rfl hown2 mo k capm (valsOf vs k) rfl (by rw [valsOf_length]; omega) hnone (hm.cells hb2) hone2 (by omega) ?_; intro w3 hown3 hgr3; have hb3 := hb2.grown hgr3 (by have := hb2.size; omega) (fun j hj => by cases hj; exact Nat.le_refl _); clear hown2 hgr3 hb2))
  have hcell : ∀ j, j < 2 + k → w3.cell? ⟨w.heap.size, 0 + j, none⟩ = some (two (.slice ao n cap) (.slice bo m capb) vs j) := by
    intro j hj
    rw [Nat.zero_add, hown3.cellAt j (by omega)]
    match j, hj with
    | 0, _ => rfl
    | 1, _ => rfl
    | j + 2, hj => exact valsOf_get vs k j (by omega)
  have hsl : ∀ j, j < 2 + k → Sl .u32 w3 (two (.slice ao n cap) (.slice bo m capb) vs j) (two n m ns j) (two f q fs j) := by
    intro j hj
    match j, hj with
    | 0, _ => exact hv.below hb3 (Nat.le_refl _)
    | 1, _ => exact hu.below hb3 (Nat.le_refl _)
    | j + 2, hj => exact (hs j (by omega)).below hb3 (Nat.le_refl _)
  have hdg : ∀ j, j < 2 + k → ∀ i, i < two n m ns j → two f q fs j i < 4294967296 := by
    intro j hj
    match j, hj with
    | 0, _ => exact hf
    | 1, _ => exact hh
    | j + 2, hj => exact hfs j (by omega)
  have hsum : sumN (two n m ns) (2 + k) = n + m + sumN ns k := sumN_two n m ns _ k rfl rfl (two_two n m ns)
  refine (product_any (2 + k) (2 + k) _ _ _ _ (two n m ns) (two f q fs) _ (Nat.le_refl _) (by omega) (by omega) (by omega) hcell hsl hdg (by rw [hsum]; exact hM)).mono ?_
  rintro e w4 ⟨v4, n4, f4, rfl, s4, d4, b4, l4, p4, o4⟩
  obtain ⟨o4, c4⟩ := o4 (by omega)
  rw [hsum] at l4
  have hz3 := hb3.size
  have HP := hide p4
  clear p4 hcell hsl hdg hsum
  go_wp2_with fail
  go_ret
  refine ⟨_, n4, f4, rfl, o4.mono (by omega), hb3.trans (b4.mono (by omega)), c4, l4, ?_⟩
  rw [unhide HP]
  exact prodN_two _ _ _ _ k rfl rfl (fun j => by simp only [two_two])

end Go.Proofs.YtjbocfhmfidjjaaDoor
