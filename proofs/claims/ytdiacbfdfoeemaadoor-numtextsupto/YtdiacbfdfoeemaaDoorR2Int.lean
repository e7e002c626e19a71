/-
  What is proved here: the document's own Int (chapter 2) answers the number that it is handed.
-/
import Derived.Test.YtdiacbfdfoeemaaDoorR2Canon
namespace Go.Proofs.YtdiacbfdfoeemaaDoor
open Go Go.RowKit

set_option maxRecDepth 4000 in
set_option maxHeartbeats 1000000 in
theorem r2int_any (z : Int) (w : World) (h1 : -9223372036854775808 ≤ z) (h2 : z ≤ 9223372036854775807) :
    Calls Tryd.prog 27 #[.int .i64 z] w fun e w' => ∃ a b n f, e = .returned a ∧ OwnN w' w.heap.size a b n f ∧ Up w w' ∧ CanZ b f n ∧ n ≤ 2 ∧ sgn b (num 4294967296 f n) = z := by
  by_cases hz : z < 0
  · obtain ⟨m, rfl⟩ : ∃ m : Nat, z = -(m : Int) := ⟨z.natAbs, by omega⟩
    have hm1 : 0 < m := by omega
    have hm2 : m ≤ 9223372036854775808 := by omega
    have hw1 : IntKind.u64.wrap (-(m : Int)) = 18446744073709551616 - (m : Int) := by
      simp only [IntKind.wrap, IntKind.bits, IntKind.signed]
      simp
      omega
    have hw : IntKind.u64.wrap (-IntKind.u64.wrap (-(m : Int))) = (m : Int) := by
      rw [hw1]
      simp only [IntKind.wrap, IntKind.bits, IntKind.signed]
      simp
      omega
    clear hw1 h1 h2
    go_enter Tryd.func27, Tryd.ntmps27
    go_wp2_with fail
    refine (r2of_any true _ 2 (pair (m % 4294967296) (m / 4294967296)) _ ((litTwo _ _ _ _ _ _ (by first | rw [hw] | skip; omega) (by first | rw [hw] | skip; omega) (by simp)).sl) (fun i _ => by unfold pair; split <;> omega) (by decide)).mono ?_
    rintro e w2 ⟨a2, b2, n2, f2, rfl, ⟨v2, rfl, o2⟩, u2, c2, l2, s2⟩
    rw [num_pair] at s2
    have HS2 := hide s2
    clear s2
    obtain ⟨ao2, cap2, rfl, -⟩ := id o2.sl
    obtain ⟨d0, d1, g0, g1, lt, e0, e1⟩ := res2 w.heap.size rfl ((up_alloc _ _).tr u2)
    go_wp2_with fail
    refine bodyPost_ret (by simp [results, Tryd.results27, go_sem, e0, e1]; rfl) rfl ?_
    refine ⟨_, b2, n2, _, rfl, ⟨_, rfl, (o2.set2 (by simp; omega)).mono (by simp; omega)⟩, Up.set2 ((up_alloc w _).tr ((up_alloc _ _).tr u2)) (Nat.le_refl _), c2, l2, ?_⟩
    rw [unhide HS2]
    simp only [sgn]
    simp
    omega
  · obtain ⟨m, rfl⟩ : ∃ m : Nat, z = (m : Int) := ⟨z.natAbs, by omega⟩
    have hm2 : m ≤ 9223372036854775807 := by omega
    clear h1 hz h2
    go_enter Tryd.func27, Tryd.ntmps27
    go_wp2_with fail
    refine (r2of_any false _ 2 (pair (m % 4294967296) (m / 4294967296)) _ ((litTwo _ _ _ _ _ _ (by omega) (by omega) (by simp)).sl) (fun i _ => by unfold pair; split <;> omega) (by decide)).mono ?_
    rintro e w2 ⟨a2, b2, n2, f2, rfl, ⟨v2, rfl, o2⟩, u2, c2, l2, s2⟩
    rw [num_pair] at s2
    have HS2 := hide s2
    clear s2
    obtain ⟨ao2, cap2, rfl, -⟩ := id o2.sl
    obtain ⟨d0, d1, g0, g1, lt, e0, e1⟩ := res2 w.heap.size rfl ((up_alloc _ _).tr u2)
    go_wp2_with fail
    refine bodyPost_ret (by simp [results, Tryd.results27, go_sem, e0, e1]; rfl) rfl ?_
    refine ⟨_, b2, n2, _, rfl, ⟨_, rfl, (o2.set2 (by simp; omega)).mono (by simp; omega)⟩, Up.set2 ((up_alloc w _).tr ((up_alloc _ _).tr u2)) (Nat.le_refl _), c2, l2, ?_⟩
    rw [unhide HS2]
    simp only [sgn]
    simp
    omega

theorem r2int_rd (z : Int) (w : World) (h1 : -9223372036854775808 ≤ z) (h2 : z ≤ 9223372036854775807) :
    Calls Tryd.prog 27 #[.int .i64 z] w fun e w' => ∃ v, e = .returned v ∧ NumIn z 2 w' w.heap.size w'.heap.size v ∧ Up w w' := by
  refine (r2int_any z w h1 h2).mono ?_
  rintro e w' ⟨a, b, n, f, rfl, o, u, c, l, s⟩
  exact ⟨a, rfl, ⟨b, n, f, CopIn.of o, c, l, s⟩, u⟩

end Go.Proofs.YtdiacbfdfoeemaaDoor
