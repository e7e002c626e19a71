/-
  What is proved here: num.Of answers the number that it is handed; num.Text says it with its sign.
-/
import Derived.Test.YtjbocfhmfidjjaaDoorNAll
import Derived.Test.YtjbocfhmfidjjaaDoorTabs
namespace Go.Proofs.YtjbocfhmfidjjaaDoor
open Go Go.RowKit

theorem litTwo (w : World) (x y : Int) (lo hi g : Nat) (hx : x = (lo : Int)) (hy : y = (hi : Int)) (hg : g = w.heap.size) :
    Own .u32 64 (w.alloc (.cells #[.int .u32 x, .int .u32 y] 64)) w.heap.size (.slice (some ⟨g, 0, none⟩) 2 2) 2 (pair lo hi) := by
  subst hx hy hg
  refine .inr ⟨w.heap.size, 2, rfl, Nat.le_refl _, by decide, _, heap_alloc_new w _, rfl, Nat.le_refl _, fun i hi => ?_⟩
  match i, hi with
  | 0, _ => rfl
  | 1, _ => rfl
theorem litOne (w : World) (x : Int) (lo g : Nat) (hx : x = (lo : Int)) (hg : g = w.heap.size) :
    Own .u32 64 (w.alloc (.cells #[.int .u32 x] 64)) w.heap.size (.slice (some ⟨g, 0, none⟩) 1 1) 1 (fun _ => lo) := by
  subst hx hg
  refine .inr ⟨w.heap.size, 1, rfl, Nat.le_refl _, by decide, _, heap_alloc_new w _, rfl, Nat.le_refl _, fun i hi => ?_⟩
  match i, hi with
  | 0, _ => rfl
theorem Own.cutAt {k : IntKind} {E : TypeId} {w : World} {base : Nat} {ao : Option Addr} {n cap m : Nat} {f : Nat → Nat} (h : Own k E w base (.slice ao n cap) n f) (hm : m ≤ n) : Own k E w base (.slice ao m cap) m f := by
  rcases h with ⟨e, rfl⟩ | ⟨g, cap', e, h1, h2, h3⟩
  · cases e
    obtain rfl : m = 0 := by omega
    exact .inl ⟨rfl, rfl⟩
  · cases e
    exact .inr ⟨g, cap, rfl, h1, h2, h3.mono hm⟩

theorem numberOf_own' (base : Nat) (v : Value) (n : Nat) (f : Nat → Nat) (b : Bool) (w : World) (hv : Own .u32 64 w base v n f) (hd : ∀ i, i < n → f i < 4294967296) :
    Calls Tryd.prog 59 #[v, .bool b] w fun e w' => ∃ a b' m, e = .returned a ∧ OwnW w' base a b' m f ∧ Up w w' ∧ CanZ b' f m ∧ m ≤ n ∧ sgn b' (num 4294967296 f m) = sgn b (num 4294967296 f n) := by
  have hs := hv.sl
  obtain ⟨ao, cap, rfl, -⟩ := id hs
  obtain ⟨h3, h1, h2⟩ := hs.rd
  refine (numberOf_any ao n cap f b w h3 h1 h2).mono ?_
  rintro e w' ⟨m, hm, rfl, u, hz, ht⟩
  refine ⟨_, _, m, rfl, ⟨_, rfl, (hv.cutAt hm).up u⟩, u, CanZ.of ⟨fun i hi => hd i (by omega), ht⟩, hm, ?_⟩
  rw [sgn_cut, num_tail hm hz]

theorem num_pair (lo hi : Nat) : num 4294967296 (pair lo hi) 2 = lo + hi * 4294967296 := by
  simp [num, pair]

set_option maxRecDepth 4000 in
set_option maxHeartbeats 1000000 in
theorem of_any (z : Int) (w : World) (h1 : -9223372036854775808 ≤ z) (h2 : z ≤ 9223372036854775807) :
    Calls Tryd.prog 26 #[.int .i64 z] w fun e w' => ∃ a b n f, e = .returned a ∧ OwnN w' w.heap.size a b n f ∧ Up w w' ∧ CanZ b f n ∧ n ≤ 2 ∧ sgn b (num 4294967296 f n) = z := by
  by_cases hz : z < 0
  · obtain ⟨m, rfl⟩ : ∃ m : Nat, z = -(m : Int) := ⟨z.natAbs, by omega⟩
    have hm1 : 0 < m := by omega
    have hm2 : m ≤ 9223372036854775808 := by omega
    have hw1 : IntKind.u64.wrap (-(m : Int)) = 18446744073709551616 - (m : Int) := by
      simp only [IntKind.wrap, IntKind.bits, IntKind.signed]
      simp
      omega
    have hw : IntKind.u64.wrap (-IntKind.u64.wrap (-(m : Int))) = (m : Int) := by
      rw [hw1]
      simp only [IntKind.wrap, IntKind.bits, IntKind.signed]
      simp
      omega
    clear hw1 h1 h2
    go_enter Tryd.func26, Tryd.ntmps26
    go_wp2_with fail
    refine (numberOf_own' (w.heap.size + 1) _ 2 (pair (m % 4294967296) (m / 4294967296)) true _ ((litTwo _ _ _ _ _ _ (by first | rw [hw] | skip; omega) (by first | rw [hw] | skip; omega) (by simp)).mono (by simp)) (fun i _ => by unfold pair; split <;> omega)).mono ?_
    rintro e w2 ⟨a2, b2, n2, rfl, o2, u2, c2, l2, s2⟩
    rw [num_pair] at s2
    have HS2 := hide s2
    clear s2
    obtain ⟨v2, rfl, o2⟩ := o2
    obtain ⟨ao2, cap2, rfl, -⟩ := id o2.sl
    go_wp2_with fail
    refine (answer_any _ b2 n2 _ _ ⟨_, rfl, o2.sl⟩).mono ?_
    rintro e w3 ⟨a3, rfl, h3, u3⟩
    obtain rfl := h3 _ rfl
    obtain ⟨d0, d1, g0, g1, lt, e0, e1⟩ := res2 w.heap.size rfl (((up_alloc _ _).tr u2).tr u3)
    go_wp2_with fail
    refine bodyPost_ret (by simp [results, Tryd.results26, go_sem, e0, e1]; rfl) rfl ?_
    refine ⟨_, b2, n2, _, rfl, ⟨_, rfl, ((o2.up u3).set2 (by omega)).mono (by omega)⟩, Up.set2 ((up_alloc w _).tr (((up_alloc _ _).tr u2).tr u3)) (Nat.le_refl _), c2, l2, ?_⟩
    rw [unhide HS2]
    simp only [sgn]
    simp
    omega
  · obtain ⟨m, rfl⟩ : ∃ m : Nat, z = (m : Int) := ⟨z.natAbs, by omega⟩
    have hm2 : m ≤ 9223372036854775807 := by omega
    clear h1 hz h2
    go_enter Tryd.func26, Tryd.ntmps26
    go_wp2_with fail
    refine (numberOf_own' (w.heap.size + 1) _ 2 (pair (m % 4294967296) (m / 4294967296)) false _ ((litTwo _ _ _ _ _ _ (by omega) (by omega) (by simp)).mono (by simp)) (fun i _ => by unfold pair; split <;> omega)).mono ?_
    rintro e w2 ⟨a2, b2, n2, rfl, o2, u2, c2, l2, s2⟩
    rw [num_pair] at s2
    have HS2 := hide s2
    clear s2
    obtain ⟨v2, rfl, o2⟩ := o2
    obtain ⟨ao2, cap2, rfl, -⟩ := id o2.sl
    go_wp2_with fail
    refine (answer_any _ b2 n2 _ _ ⟨_, rfl, o2.sl⟩).mono ?_
    rintro e w3 ⟨a3, rfl, h3, u3⟩
    obtain rfl := h3 _ rfl
    obtain ⟨d0, d1, g0, g1, lt, e0, e1⟩ := res2 w.heap.size rfl (((up_alloc _ _).tr u2).tr u3)
    go_wp2_with fail
    refine bodyPost_ret (by simp [results, Tryd.results26, go_sem, e0, e1]; rfl) rfl ?_
    refine ⟨_, b2, n2, _, rfl, ⟨_, rfl, ((o2.up u3).set2 (by omega)).mono (by omega)⟩, Up.set2 ((up_alloc w _).tr (((up_alloc _ _).tr u2).tr u3)) (Nat.le_refl _), c2, l2, ?_⟩
    rw [unhide HS2]
    simp only [sgn]
    simp
    omega

end Go.Proofs.YtjbocfhmfidjjaaDoor
