/-
  What is proved here: the function that the sort of feeds is handed.
-/
import Derived.Test.YtcefeclgehijpaaFCmp
import Derived.Deep.RegionHeld3
namespace Go.Proofs.Ytcefeclgehijpaa
open Go Go.RowKit Go.Sort

theorem or_r (w : World) (g : Nat) (a b r : Int) (hr : r = if a ≠ 0 then a else b) (h0 : w.cell? ⟨g, 0, none⟩ = some (.int .i64 a)) (h1 : w.cell? ⟨g, 1, none⟩ = some (.int .i64 b)) : Calls Try.prog 30 #[.slice (some ⟨g, 0, none⟩) 2 2] w fun e w' => e = .returned (.int .i64 r) ∧ w' = w := by
  rw [hr]
  exact or_any w g a b h0 h1

set_option maxRecDepth 20000 in
set_option maxHeartbeats 4000000 in
theorem clos_any (x y : Fd) (W : World) : Calls Try.prog 29 #[.agg #[.int .i64 x.p, .int .i64 x.c, .int .i64 x.m, .int .i64 x.k], .agg #[.int .i64 y.p, .int .i64 y.c, .int .i64 y.m, .int .i64 y.k]] W fun e w' => e = .returned (.int .i64 (cmpF x y)) ∧ ∃ q os', w' = grow (W.drewN q) os' := by
  obtain ⟨u, hu⟩ : ∃ u, u = cmpI x.p y.p := ⟨_, rfl⟩
  obtain ⟨v, hv⟩ : ∃ u, u = cmpI x.c y.c := ⟨_, rfl⟩
  obtain ⟨r, hr⟩ : ∃ z, z = if u ≠ 0 then u else v := ⟨_, rfl⟩
  have K1 : Hid (∀ W, Calls Try.prog 31 #[.int .i64 x.p, .int .i64 y.p] W fun e w' => e = .returned (.int .i64 u) ∧ w' = W) := fun W => by rw [hu]; exact compare_any W _ _
  have K2 : Hid (∀ W, Calls Try.prog 31 #[.int .i64 x.c, .int .i64 y.c] W fun e w' => e = .returned (.int .i64 v) ∧ w' = W) := fun W => by rw [hv]; exact compare_any W _ _
  have hcf : cmpF x y = r := by unfold cmpF; rw [← hu, ← hv, hr]
  rw [hcf]
  have HR := hide hr
  clear hcf hr hu hv
  go_enter Try.func29, Try.ntmps29
  go_wp2_with fail
  go_region_held3 (fun w' => w'.cell? ⟨W.heap.size, 0, none⟩ = some (.int .i64 x.p) ∧ w'.cell? ⟨W.heap.size, 1, none⟩ = some (.int .i64 x.c) ∧ w'.cell? ⟨W.heap.size + 1, 0, none⟩ = some (.int .i64 y.p) ∧ w'.cell? ⟨W.heap.size + 1, 1, none⟩ = some (.int .i64 y.c)) (go_keep)
    (first
    | (go_at_call_of 31 (Value.int IntKind.i64 x.p); refine (K1.out _).mono ?_; rintro e1 w1 ⟨rfl, rfl⟩)
    | (go_at_call_of 31 (Value.int IntKind.i64 x.c); refine (K2.out _).mono ?_; rintro e1 w1 ⟨rfl, rfl⟩)
    | (go_at_call 30; refine (or_r _ _ u v r HR.out (by go_simp) (by go_simp)).mono ?_; rintro e1 w1 ⟨rfl, rfl⟩))
  go_wp2_with fail
  go_ret
  exact ⟨rfl, 1, _, by rw [alloc_eq_grow, alloc_eq_grow, alloc_eq_grow, grow_grow, grow_grow]; rfl⟩

end Go.Proofs.Ytcefeclgehijpaa
