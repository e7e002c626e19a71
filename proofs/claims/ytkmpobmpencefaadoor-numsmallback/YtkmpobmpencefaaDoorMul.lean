/-
  What is proved here: nat.product and nat.Mul answer the limbs of the product of all that they are handed.
-/
import Derived.Test.YtkmpobmpencefaaDoorTimes
import Derived.Deep.RegionWith
namespace Go.Proofs.YtkmpobmpencefaaDoor
open Go Go.RowKit

/-- The product of the first k numbers; the sum of the first k numbers. -/
def prodN (F : Nat → Nat) : Nat → Nat
  | 0 => 1
  | k + 1 => prodN F k * F k
def sumN (F : Nat → Nat) : Nat → Nat
  | 0 => 0
  | k + 1 => sumN F k + F k
theorem prodN_split (F : Nat → Nat) (a b : Nat) : prodN F (a + b) = prodN F a * prodN (fun i => F (a + i)) b := by
  induction b with
  | zero => simp [prodN]
  | succ b ih => rw [← Nat.add_assoc, prodN, ih, prodN, Nat.mul_assoc]
theorem sumN_split (F : Nat → Nat) (a b : Nat) : sumN F (a + b) = sumN F a + sumN (fun i => F (a + i)) b := by
  induction b with
  | zero => simp [sumN]
  | succ b ih => rw [← Nat.add_assoc, sumN, ih, sumN, Nat.add_assoc]
theorem sumN_one (F : Nat → Nat) : sumN F 1 = F 0 := by simp [sumN]
theorem prodN_one (F : Nat → Nat) : prodN F 1 = F 0 := by simp [prodN]


set_option maxHeartbeats 2000000 in
theorem product_any (K : Nat) : ∀ (k b off cap : Nat) (vs : Nat → Value) (ns : Nat → Nat) (fs : Nat → Nat → Nat) (w : World), k ≤ K → 1 ≤ k → k ≤ cap → cap ≤ 9223372036854775807 →
    (∀ i, i < k → w.cell? ⟨b, off + i, none⟩ = some (vs i)) → (∀ i, i < k → Sl .u32 w (vs i) (ns i) (fs i)) → (∀ j, j < k → ∀ i, i < ns j → fs j i < 4294967296) → 4 * sumN ns k ≤ 281474976710656 →
    Calls Tryd.prog 102 #[.slice (some ⟨b, off, none⟩) k cap] w fun e w' => ∃ v n f, e = .returned v ∧ Sl .u32 w' v n f ∧ (∀ i, i < n → f i < 4294967296) ∧ Below w.heap.size w w' ∧ n ≤ sumN ns k ∧
      num 4294967296 f n = prodN (fun i => num 4294967296 (fs i) (ns i)) k ∧ (2 ≤ k → Own .u32 64 w' w.heap.size v n f ∧ Can 4294967296 f n) := by
  induction K with
  | zero => intro k b off cap vs ns fs w h1 h2; omega
  | succ K ih =>
    intro k b off cap vs ns fs w hkK hk1 hkc hcm hc hs hd hsz
    by_cases hk : k = 1
    · subst hk
      have hx := hc 0 (by omega)
      rw [Nat.add_zero] at hx
      clear ih hc
      go_enter Tryd.func102, Tryd.ntmps102
      go_wp2_with fail
      go_ret
      exact ⟨_, ns 0, fs 0, rfl, hs 0 (by omega), hd 0 (by omega), Below.refl _ _, by rw [sumN_one]; exact Nat.le_refl _, by rw [prodN_one], fun h => by omega⟩
    · obtain ⟨a, c, rfl, ha, hc1, ha2, hc2⟩ : ∃ a c, k = a + c ∧ 1 ≤ a ∧ 1 ≤ c ∧ 2 * a ≤ k ∧ k ≤ 2 * a + 1 := ⟨k / 2, k - k / 2, by omega, by omega, by omega, by omega, by omega⟩
      have hbq : ((a + c : Int) == 1) = false := beq_eq_false_iff_ne.2 (by omega)
      have hbr : (((a + c : Nat) : Int) == 1) = false := beq_eq_false_iff_ne.2 (by omega)
      have hdv : ((a : Int) + (c : Int)) / 2 = (a : Int) := by omega
      have sB : 4 * (sumN ns a + sumN (fun i => ns (a + i)) c) ≤ 281474976710656 := by rw [sumN_split] at hsz; exact hsz
      have sL : 4 * sumN ns a ≤ 281474976710656 := by rw [sumN_split] at hsz; omega
      have sR : 4 * sumN (fun i => ns (a + i)) c ≤ 281474976710656 := by rw [sumN_split] at hsz; omega
      have L := hide (fun (w' : World) (hb : Below w.heap.size w w') => ih a b off cap vs ns fs w' (by omega) ha (by omega) hcm
        (fun i hi => (hb.cell (p := ⟨b, off + i, none⟩) (World.block_lt_of_cell? w _ (hc i (by omega)))).trans (hc i (by omega)))
        (fun i hi => (hs i (by omega)).below hb (Nat.le_refl _)) (fun j hj => hd j (by omega)) sL)
      have R := hide (fun (w' : World) (hb : Below w.heap.size w w') => ih c b (off + a) (cap - a) (fun i => vs (a + i)) (fun i => ns (a + i)) (fun i => fs (a + i)) w' (by omega) hc1 (by omega) (by omega)
        (fun i hi => by rw [Nat.add_assoc]; exact (hb.cell (p := ⟨b, off + (a + i), none⟩) (World.block_lt_of_cell? w _ (hc (a + i) (by omega)))).trans (hc (a + i) (by omega)))
        (fun i hi => (hs (a + i) (by omega)).below hb (Nat.le_refl _)) (fun j hj => hd (a + j) (by omega)) sR)
      clear ih hc hs hd
      go_enter Tryd.func102, Tryd.ntmps102
      go_wp2_with fail
      rw [show ((a : Int) + (c : Int)) / 2 = (a : Int) from by omega]
      have i1 : (0 : Int) ≤ (a : Int) := by omega
      have i2 : (a : Int) ≤ (cap : Int) := by omega
      have i3 : (a : Int) ≤ (a : Int) + (c : Int) := by omega
      have i4 : ¬ cap = a := by omega
      have b0 : Below w.heap.size w w := Below.refl _ _
      go_region_with (first
        | (go_at_call_of 102 (Value.slice (some ⟨b, off, none⟩) a cap); refine (unhide L _ ?_).mono ?_; (repeat (first | exact b0 | apply Below.drew)); rintro e w1 ⟨v1, n1, f1, rfl, s1, d1, b1, l1, p1, o1⟩; have c1 : Below w.heap.size w w1 := (by first | exact b0.drew.trans b1 | exact b1))
        | (go_at_call 117; refine (times_any _ _ n1 n2 f1 f2 _ t1 s2 d1 d2 (by omega)).mono ?_; rintro e w3 ⟨v3, n3, f3, rfl, o3, b3, k3, l3, p3⟩)
        | (go_at_call_of 102 (Value.slice (some ⟨b, off + a, none⟩) c (cap - a)); refine (unhide R _ ?_).mono ?_; exact c1; rintro e w2 ⟨v2, n2, f2, rfl, s2, d2, b2, l2, p2, o2⟩; have t1 := s1.below b2 (Nat.le_refl _)))
      go_wp2_with fail
      go_ret
      have z1 := c1.size
      have z2 := b2.size
      refine ⟨_, n3, f3, rfl, o3.sl, k3.1, c1.trans ((b2.mono (by omega)).trans (b3.mono (by omega))), by rw [sumN_split]; omega, ?_, fun _ => ⟨o3.mono (by omega), k3⟩⟩
      rw [p3, p1, p2, prodN_split]

/-- Two ahead of a row. -/
def two {α : Type} (a b : α) (s : Nat → α) : Nat → α
  | 0 => a
  | 1 => b
  | i + 2 => s i
theorem two_two {α : Type} (a b : α) (s : Nat → α) (i : Nat) : two a b s (2 + i) = s i := by rw [Nat.add_comm]; rfl

theorem prodN_two (a b : Nat) (F G : Nat → Nat) (k : Nat) (h0 : G 0 = a) (h1 : G 1 = b) (h2 : ∀ i, G (2 + i) = F i) : prodN G (2 + k) = a * b * prodN F k := by
  rw [prodN_split]
  have e : (fun i => G (2 + i)) = F := by funext i; exact h2 i
  rw [e]
  simp [prodN, h0, h1]
theorem sumN_two (a b : Nat) (F G : Nat → Nat) (k : Nat) (h0 : G 0 = a) (h1 : G 1 = b) (h2 : ∀ i, G (2 + i) = F i) : sumN G (2 + k) = a + b + sumN F k := by
  rw [sumN_split]
  have e : (fun i => G (2 + i)) = F := by funext i; exact h2 i
  rw [e]
  simp [sumN, h0, h1]

theorem infoS : (Tryd.prog.info? 24).map (fun i => (i.zero, i.size, i.bytes)) = some (some (.slice none 0 0), 1, 24) := by kernel_rfl

/-- The values of a row, as a list. -/
def valsOf (vs : Nat → Value) (n : Nat) : List Value := (List.range n).map vs
theorem valsOf_length (vs : Nat → Value) (n : Nat) : (valsOf vs n).length = n := by simp [valsOf]
theorem valsOf_get (vs : Nat → Value) (n i : Nat) (h : i < n) : (valsOf vs n)[i]? = some (vs i) := by simp [valsOf, h]

theorem cells_two (w : World) (a b : Value) (E : TypeId) : ∀ j u, [a, b][j]? = some u → (w.alloc (.cells #[a, b] E)).cell? ((⟨w.heap.size, 0, none⟩ : Addr).add j) = some u := by
  intro j u hj
  rw [Addr.add_lit, cell_of_row _ _ _ _ _ _ (heap_alloc_new w _), Nat.zero_add]
  simpa using hj
theorem Rds.cells {w w' : World} {mo : Option Addr} {k : Nat} {vs : Nat → Value} (h : Rds w mo k vs) (hb : Below w.heap.size w w') : ∀ ad, mo = some ad → ∀ j u, (valsOf vs k)[j]? = some u → w'.cell? (ad.add j) = some u := by
  rintro ad rfl j u hj
  have hl : j < k := by
    have := (List.getElem?_eq_some_iff.1 hj).1
    simpa [valsOf] using this
  rcases h.below hb (Nat.le_refl _) with h | ⟨b, off, e, hc⟩
  · omega
  · cases e
    rw [valsOf_get vs k j hl] at hj
    rw [Addr.add_lit, hc j hl]
    exact hj

set_option maxHeartbeats 2000000 in
theorem mul_any (v u : Value) (n m k capm : Nat) (f q : Nat → Nat) (mo : Option Addr) (vs : Nat → Value) (ns : Nat → Nat) (fs : Nat → Nat → Nat) (w : World)
    (hv : Sl .u32 w v n f) (hu : Sl .u32 w u m q) (hm : Rds w mo k vs) (hmn : mo = none → capm = 0) (hs : ∀ i, i < k → Sl .u32 w (vs i) (ns i) (fs i))
    (hf : ∀ i, i < n → f i < 4294967296) (hh : ∀ i, i < m → q i < 4294967296) (hfs : ∀ j, j < k → ∀ i, i < ns j → fs j i < 4294967296)
    (hM : 4 * (n + m + sumN ns k) ≤ 281474976710656) (hk : 24 * (k + 2) ≤ 140737488355328) :
    Calls Tryd.prog 79 #[v, u, .slice mo k capm] w fun e w' => ∃ v' n' f', e = .returned v' ∧ Own .u32 64 w' w.heap.size v' n' f' ∧ Below w.heap.size w w' ∧ Can 4294967296 f' n' ∧ n' ≤ n + m + sumN ns k ∧
      num 4294967296 f' n' = num 4294967296 f n * num 4294967296 q m * prodN (fun i => num 4294967296 (fs i) (ns i)) k := by
  obtain ⟨i, hi, hz0, hz1, hz2⟩ := info_parts infoS
  obtain ⟨ao, cap, ev, -⟩ := id hv
  obtain ⟨bo, capb, eu, -⟩ := id hu
  subst ev eu
  go_enter Tryd.func79, Tryd.ntmps79
  have hone : ∀ u ∈ [Value.slice ao n cap, Value.slice bo m capb], u.oneCell' = true := by
    intro u hu
    simp only [List.mem_cons, List.not_mem_nil, or_false] at hu
    rcases hu with rfl | rfl <;> rfl
  have hone2 : ∀ u ∈ valsOf vs k, u.oneCell' = true := by
    intro u hu
    obtain ⟨j, hj, rfl⟩ := List.mem_map.1 hu
    obtain ⟨ao, cap, e, -⟩ := hs j (by simpa using hj)
    rw [e]
    rfl
  have hnone : mo = none → k = 0 ∧ capm = 0 := by
    intro e
    refine ⟨?_, hmn e⟩
    rcases hm with h | ⟨b, off, e', _⟩
    · exact h
    · rw [e] at e'
      cases e'
  go_wp2_with (first
    | (at_make; refine wpList_make_own _ rfl _ _ 83 rfl w.heap.size 24 i (.slice none 0 0) 1 Tryd.underlying83 hi hz0 hz1 _ _ _ (k + 2) rfl rfl (by omega) (by rw [hz2]; omega) (by unfold maxLen; omega) (Nat.le_refl _) ?_; intro w1 hown1 hgr1; have hb1 := Below.of_grown hgr1; have hz1' := hb1.size)
    | (at_builtin; refine wpList_append_fits _ rfl (.tmp 12) (.tmp 15) 83 rfl w.heap.size 24 i 1 Tryd.underlying83 hi hz1 w.heap.size 0 (k + 2) [] rfl (hown1.alloc _) ⟨w1.heap.size, 0, none⟩ 2 2 [.slice ao n cap, .slice bo m capb] rfl rfl (cells_two _ _ _ _) hone (by omega) ?_; intro w2 hown2 hgr2; simp only [Nat.zero_add, List.nil_append] at hown2; have hb2 := (hb1.alloc hz1' _).grown hgr2 (by simp; omega) (fun j hj => by cases hj; exact Nat.le_refl _); clear hown1 hgr1 hgr2 hb1)
    | (at_builtin; refine wpList_append_fits_any _ rfl (.tmp 17) (.tmp 18) 83 rfl w.heap.size 24 i 1 Tryd.underlying83 hi hz1 w.heap.size 2 (k + 2) _ rfl hown2 mo k capm (valsOf vs k) rfl (by rw [valsOf_length]; omega) hnone (hm.cells hb2) hone2 (by omega) ?_; intro w3 hown3 hgr3; have hb3 := hb2.grown hgr3 (by have := hb2.size; omega) (fun j hj => by cases hj; exact Nat.le_refl _); clear hown2 hgr3 hb2))
  have hcell : ∀ j, j < 2 + k → w3.cell? ⟨w.heap.size, 0 + j, none⟩ = some (two (.slice ao n cap) (.slice bo m capb) vs j) := by
    intro j hj
    rw [Nat.zero_add, hown3.cellAt j (by omega)]
    match j, hj with
    | 0, _ => rfl
    | 1, _ => rfl
    | j + 2, hj => exact valsOf_get vs k j (by omega)
  have hsl : ∀ j, j < 2 + k → Sl .u32 w3 (two (.slice ao n cap) (.slice bo m capb) vs j) (two n m ns j) (two f q fs j) := by
    intro j hj
    match j, hj with
    | 0, _ => exact hv.below hb3 (Nat.le_refl _)
    | 1, _ => exact hu.below hb3 (Nat.le_refl _)
    | j + 2, hj => exact (hs j (by omega)).below hb3 (Nat.le_refl _)
  have hdg : ∀ j, j < 2 + k → ∀ i, i < two n m ns j → two f q fs j i < 4294967296 := by
    intro j hj
    match j, hj with
    | 0, _ => exact hf
    | 1, _ => exact hh
    | j + 2, hj => exact hfs j (by omega)
  have hsum : sumN (two n m ns) (2 + k) = n + m + sumN ns k := sumN_two n m ns _ k rfl rfl (two_two n m ns)
  refine (product_any (2 + k) (2 + k) _ _ _ _ (two n m ns) (two f q fs) _ (Nat.le_refl _) (by omega) (by omega) (by omega) hcell hsl hdg (by rw [hsum]; exact hM)).mono ?_
  rintro e w4 ⟨v4, n4, f4, rfl, s4, d4, b4, l4, p4, o4⟩
  obtain ⟨o4, c4⟩ := o4 (by omega)
  rw [hsum] at l4
  have hz3 := hb3.size
  have HP := hide p4
  clear p4 hcell hsl hdg hsum
  go_wp2_with fail
  go_ret
  refine ⟨_, n4, f4, rfl, o4.mono (by omega), hb3.trans (b4.mono (by omega)), c4, l4, ?_⟩
  rw [unhide HP]
  exact prodN_two _ _ _ _ k rfl rfl (fun j => by simp only [two_two])

end Go.Proofs.YtkmpobmpencefaaDoor
