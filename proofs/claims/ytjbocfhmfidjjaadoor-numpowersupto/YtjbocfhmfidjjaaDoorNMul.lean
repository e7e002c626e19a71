/-
  What is proved here: num.Mul of two numbers, num.Neg and num.Sub.
-/
import Derived.Test.YtjbocfhmfidjjaaDoorNProd
namespace Go.Proofs.YtjbocfhmfidjjaaDoor
open Go Go.RowKit

theorem sumN_pair (a b : Nat) : sumN (pair a b) 2 = a + b := by simp [sumN, pair]
theorem sumN_le {f g : Nat → Nat} {k : Nat} (h : ∀ i, i < k → f i ≤ g i) : sumN f k ≤ sumN g k := by
  induction k with
  | zero => exact Nat.le_refl _
  | succ k ih =>
    have h1 := ih (fun i hi => h i (by omega))
    have h2 := h k (by omega)
    show sumN f k + f k ≤ sumN g k + g k
    omega
theorem prodZ_congr {g h : Nat → Int} {k : Nat} (e : ∀ i, i < k → g i = h i) : prodZ g k = prodZ h k := by
  induction k with
  | zero => rfl
  | succ k ih =>
    show prodZ g k * g k = prodZ h k * h k
    rw [ih (fun i hi => e i (by omega)), e k (by omega)]

/-- How a function that answers one number ends. -/
def NumEnd (X : Int) (M : Nat) (w : World) (e : Ending) (w' : World) : Prop := ∃ a b n f, e = .returned a ∧ OwnN w' w.heap.size a b n f ∧ Up w w' ∧ CanZ b f n ∧ n ≤ M ∧ sgn b (num 4294967296 f n) = X

set_option maxRecDepth 4000 in
set_option maxHeartbeats 1000000 in
theorem mulz_any (mo : Option Addr) (k capm M : Nat) (vs : Nat → Value) (bs : Nat → Bool) (ns : Nat → Nat) (fs : Nat → Nat → Nat) (w : World) (hm : RdN w mo k vs bs) (hl : Lsts w M k vs ns fs) (hk2 : 2 ≤ k) (hM : 4 * sumN ns k ≤ 281474976710656) (hk : 32 * k ≤ 140737488355328) :
    Calls Tryd.prog 21 #[.slice mo k capm] w fun e w' => NumEnd (prodZ (fun i => sgn (bs i) (num 4294967296 (fs i) (ns i))) k) (sumN ns k) w e w' := by
  have hm' : RdN (w.alloc (.cells #[.bool false, .slice none 0 0] 26)) mo k vs bs := by
    rcases hm with h | ⟨b, off, rfl, hc⟩
    · exact .inl h
    · by_cases h0 : k = 0
      · exact .inl h0
      · have hb : b < w.heap.size := World.block_lt_of_cell? w _ (hc 0 (by omega)).1
        exact .inr ⟨b, off, rfl, fun i hi => ⟨(Below.cell (up_alloc w _) (p := ⟨b, off + i * 2, none⟩) hb).trans (hc i hi).1, (Below.cell (up_alloc w _) (p := ⟨b, off + i * 2 + 1, none⟩) hb).trans (hc i hi).2⟩⟩
  have HL := hide hl
  clear hl hm
  go_enter Tryd.func21, Tryd.ntmps21
  go_wp2_with fail
  refine (workAll_any mo k capm M vs bs ns fs _ hm' ((unhide HL).up (up_alloc w _)) (by omega)).mono ?_
  rintro e w1 ⟨mo1, cap1, vs1, bs1, ms1, rfl, hcap1, rw1, l1, u1, hs1⟩
  have HS1 := hide hs1
  have hle : sumN ms1 k ≤ sumN ns k := sumN_le (fun i hi => (hs1 i hi).2.1)
  clear hs1 hm'
  go_wp2_with fail
  refine (product_two mo1 k cap1 M vs1 bs1 ms1 fs _ rw1 (l1.up u1) hk2 hcap1 (by omega) (by omega)).mono ?_
  rintro e w2 HP
  obtain ⟨a2, b2, n2, f2, rfl, o2, u2, c2, l2, s2⟩ := HP
  have HS2 := hide s2
  clear s2
  obtain ⟨v2, rfl, o2⟩ := o2
  obtain ⟨ao2, cap2, rfl, -⟩ := id o2.sl
  go_wp2_with fail
  refine (answer_any _ b2 n2 f2 _ ⟨_, rfl, o2.sl⟩).mono ?_
  rintro e w3 ⟨a3, rfl, h3, u3⟩
  obtain rfl := h3 _ rfl
  obtain ⟨d0, d1, g0, g1, lt, e0, e1⟩ := res2 w.heap.size rfl ((u1.tr u2).tr u3)
  have hz : w.heap.size < w1.heap.size := by have := Below.size u1; simp at this; omega
  go_wp2_with fail
  refine bodyPost_ret (by simp [results, Tryd.results21, go_sem, e0, e1]; rfl) rfl ?_
  refine ⟨_, b2, n2, f2, rfl, ⟨_, rfl, ((o2.up u3).set2 hz).mono (by omega)⟩, Up.set2 ((up_alloc w _).tr ((u1.tr u2).tr u3)) (Nat.le_refl _), c2, by omega, ?_⟩
  rw [unhide HS2]
  exact prodZ_congr (fun i hi => (unhide HS1 i hi).2.2)

/-- Two numbers, side by side in a block. -/
theorem rdn_blk {w : World} {g : Nat} {v1 v2 : Value} {b1 b2 : Bool} {E : TypeId} (h : w.heap[g]? = some (.cells #[.bool b1, v1, .bool b2, v2] E (0, 0))) : RdN w (some ⟨g, 0, none⟩) 2 (pair v1 v2) (pair b1 b2) := by
  refine .inr ⟨g, 0, rfl, fun i hi => ?_⟩
  rw [cell_of_row _ _ _ _ _ _ h, cell_of_row _ _ _ _ _ _ h]
  match i, hi with
  | 0, _ => exact ⟨rfl, rfl⟩
  | 1, _ => exact ⟨rfl, rfl⟩
theorem mul2_blk (g : Nat) (v1 v2 : Value) (b1 b2 : Bool) (n1 n2 : Nat) (f1 f2 : Nat → Nat) (E : TypeId) (X1 X2 : Int) (w : World) (hg : w.heap[g]? = some (.cells #[.bool b1, v1, .bool b2, v2] E (0, 0))) (h1 : Sl .u32 w v1 n1 f1) (h2 : Sl .u32 w v2 n2 f2) (d1 : ∀ i, i < n1 → f1 i < 4294967296) (d2 : ∀ i, i < n2 → f2 i < 4294967296) (hM : 4 * (n1 + n2) ≤ 281474976710656)
    (e1 : sgn b1 (num 4294967296 f1 n1) = X1) (e2 : sgn b2 (num 4294967296 f2 n2) = X2) :
    Calls Tryd.prog 21 #[.slice (some ⟨g, 0, none⟩) 2 2] w fun e w' => NumEnd (X1 * X2) (n1 + n2) w e w' := by
  have h := mulz_any (some ⟨g, 0, none⟩) 2 2 (n1 + n2) (pair v1 v2) (pair b1 b2) (pair n1 n2) (pair f1 f2) w (rdn_blk hg) (lsts_two h1 h2 d1 d2 (by omega) (by omega)) (Nat.le_refl _) (by rw [sumN_pair]; exact hM) (by decide)
  rw [sumN_pair] at h
  have e : prodZ (fun i => sgn (pair b1 b2 i) (num 4294967296 (pair f1 f2 i) (pair n1 n2 i))) 2 = X1 * X2 := by
    rw [← e1, ← e2]
    simp [prodZ, pair]
  rw [e] at h
  exact h
theorem add2_blk (g : Nat) (v1 v2 : Value) (b1 b2 : Bool) (n1 n2 M : Nat) (f1 f2 : Nat → Nat) (E : TypeId) (X1 X2 : Int) (w : World) (hg : w.heap[g]? = some (.cells #[.bool b1, v1, .bool b2, v2] E (0, 0))) (h1 : Sl .u32 w v1 n1 f1) (h2 : Sl .u32 w v2 n2 f2) (d1 : ∀ i, i < n1 → f1 i < 4294967296) (d2 : ∀ i, i < n2 → f2 i < 4294967296) (l1 : n1 ≤ M) (l2 : n2 ≤ M) (hM : 4 * (M + 1) ≤ 281474976710656)
    (e1 : sgn b1 (num 4294967296 f1 n1) = X1) (e2 : sgn b2 (num 4294967296 f2 n2) = X2) :
    Calls Tryd.prog 17 #[.slice (some ⟨g, 0, none⟩) 2 2] w fun e w' => NumEnd (X1 + X2) (M + 1) w e w' := by
  refine (addz_any _ 2 2 M (pair v1 v2) (pair b1 b2) (pair n1 n2) (pair f1 f2) _ (rdn_blk hg) (lsts_two h1 h2 d1 d2 l1 l2) hM (by decide)).mono ?_
  rintro e w' ⟨a, b, n, f, rfl, o, u, c, l, s⟩
  refine ⟨_, b, n, f, rfl, o, u, c, l, ?_⟩
  rw [s, ← e1, ← e2]
  simp [sumZ, pair]

end Go.Proofs.YtjbocfhmfidjjaaDoor
