/-
  What is proved here: num.headOf keeps the highest limbs.
-/
import Derived.Test.YtjbocfhmfidjjaaDoorNCon
namespace Go.Proofs.YtjbocfhmfidjjaaDoor
open Go Go.RowKit

set_option maxRecDepth 4000 in
set_option maxHeartbeats 4000000 in
theorem headOf_any (v : Value) (n : Nat) (f : Nat → Nat) (c : Nat) (kp : Int) (w : World) (hs : Sl .u32 w v n f) (hk1 : 1 ≤ kp) (hk2 : kp ≤ 9223372036854775807) (hn : n ≤ 1125899906842624) (hc : c ≤ 1152921504606846976) :
    Calls Tryd.prog 89 #[v, .int .i64 (c : Int), .int .i64 kp] w fun e w' => ∃ u x, e = .returned (.agg #[u, .int .i64 ((c + x : Nat) : Int)]) ∧ x ≤ n ∧ (x ≠ 0 → x < n) ∧ Sl .u32 w u (n - x) (fun i => f (x + i)) ∧ ((n : Int) ≤ kp → u = v ∧ x = 0) ∧ Up w w' := by
  obtain ⟨ao, cap, rfl, h1, h2, h0, hrd⟩ := id hs
  have HS := hide hs
  by_cases hle : (n : Int) ≤ kp
  · have hm : max ((n : Int) - kp) 0 = 0 := by omega
    go_enter Tryd.func89, Tryd.ntmps89
    go_wp2_with fail
    refine bodyPost_ret (by simp [results, Tryd.results89, go_sem]; rfl) rfl ?_
    refine ⟨.slice ao n cap, 0, rfl, Nat.zero_le _, fun h => absurd rfl h, ?_, fun _ => ⟨rfl, rfl⟩, up_alloc _ _⟩
    simpa using unhide HS
  · obtain ⟨x, hx⟩ : ∃ x : Nat, (n : Int) - kp = (x : Int) := ⟨((n : Int) - kp).toNat, by omega⟩
    have hx1 : x < n := by omega
    have hx0 : 0 < x := by omega
    have hm : max ((n : Int) - kp) 0 = (x : Int) := by omega
    clear hle hk1 hk2
    go_enter Tryd.func89, Tryd.ntmps89
    go_wp2_with fail
    refine bodyPost_ret (by simp [results, Tryd.results89, go_sem]; rfl) rfl ?_
    refine ⟨_, x, rfl, by omega, fun _ => hx1, ?_, fun h => by omega, up_alloc _ _⟩
    rcases hrd with h | ⟨b, off, rfl, hc⟩
    · omega
    · refine ⟨some ⟨b, off + x, none⟩, cap - x, ?_, by omega, by omega, (fun e => by cases e), .inr ⟨b, off + x, rfl, fun i hi => ?_⟩⟩
      · simp [Addr.add_lit]
      · rw [Nat.add_assoc]
        exact hc (x + i) (by omega)

end Go.Proofs.YtjbocfhmfidjjaaDoor
