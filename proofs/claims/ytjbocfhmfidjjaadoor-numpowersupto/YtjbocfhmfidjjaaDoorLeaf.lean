/-
  What is proved here: what the small functions without memory of their own answer: nat.trim, tandemlaw00.SameLimbs, math/bits.Add32 and others, for every argument that can be read.
-/
import Derived.Test.YtjbocfhmfidjjaaDoorProg
import Derived.Test.YtjbocfhmfidjjaaDoorBase
import Derived.WalkLawsBesides
namespace Go.Proofs.YtjbocfhmfidjjaaDoor
open Go Go.RowKit

set_option maxHeartbeats 400000 in
theorem trim_any (ao : Option Addr) (n cap : Nat) (f : Nat → Nat) (w : World) (h : Rd .u32 w ao n f) (hnc : n ≤ cap) (hm : cap ≤ 9223372036854775807) :
    Calls Tryd.prog 83 #[.slice ao n cap] w fun e w' => w' = w ∧ ∃ m, m ≤ n ∧ e = .returned (.slice ao m cap) ∧ (∀ i, m ≤ i → i < n → f i = 0) ∧ (m = 0 ∨ f (m - 1) ≠ 0) := by
  rcases h with rfl | ⟨b, off, rfl, hc⟩
  · go_enter Tryd.func83, Tryd.ntmps83
    go_wp2
    refine wp_loop_rounds 1 ?_
    rw [rounds_succ]
    go_wp2
    go_ret
    exact ⟨rfl, 0, Nat.le_refl _, by simp, fun i h1 h2 => by omega, .inl rfl⟩
  · go_enter Tryd.func83, Tryd.ntmps83
    go_wp2
    go_loop [3] (fun t => ∃ k : Nat, k ≤ n ∧ t = .int .i64 k ∧ ∀ i, k ≤ i → i < n → f i = 0) (fun t => (intOf t).toNat)
    case atStart => exact ⟨n, Nat.le_refl _, rfl, fun i h1 h2 => by omega⟩
    case round =>
      obtain ⟨k, hk, rfl, hz⟩ := hrel
      by_cases hk0 : 0 < k
      · have hx := hc (k - 1) (by omega)
        clear hc
        by_cases he : f (k - 1) = 0
        · have HE : Hid (f (k - 1) = 0) := he
          rw [he] at hx
          clear he
          go_wp2
          go_round
          case rel => exact ⟨k - 1, by omega, by go_num, fun i h1 h2 => by
            by_cases e : i = k - 1
            · rw [e]; exact HE.out
            · exact hz i (by omega) h2⟩
          case measure => simp [intOf]; omega
        · have hb : ((f (k - 1) : Int) == 0) = false := by simp; omega
          generalize hy : f (k - 1) = y at *
          have HE := hide hy
          clear hy
          go_wp2
          go_ret
          exact ⟨rfl, k, hk, rfl, hz, .inr (by rw [unhide HE]; exact he)⟩
      · have e0 : k = 0 := by omega
        subst e0
        go_wp2
        go_ret
        exact ⟨rfl, 0, by omega, by simp, hz, .inl rfl⟩

set_option maxHeartbeats 400000 in
theorem same_any (ao bo : Option Addr) (n m capa capb : Nat) (f g : Nat → Nat) (w : World) (ha : Rd .u32 w ao n f) (hb : Rd .u32 w bo m g) (hn : n ≤ 9223372036854775807) (hm : m ≤ 9223372036854775807)
    (hs : n = m ∧ ∀ i, i < n → f i = g i) :
    Calls Tryd.prog 74 #[.slice ao n capa, .slice bo m capb] w fun e w' => e = .returned (.bool true) ∧ Below w.heap.size w w' := by
  obtain ⟨rfl, hfg⟩ := hs
  by_cases h0 : n = 0
  · subst h0
    go_enter Tryd.func74, Tryd.ntmps74
    go_wp2
    refine wp_loop_rounds 1 ?_
    rw [rounds_succ]
    go_wp2
    go_ret
    exact ⟨rfl, Below.refl _ _⟩
  · rcases ha with ha | ⟨b, off, rfl, hca⟩
    · exact absurd ha h0
    rcases hb with hb | ⟨b', off', rfl, hcb⟩
    · exact absurd hb h0
    have hne : ((n : Int) != (n : Int)) = false := by simp
    go_enter Tryd.func74, Tryd.ntmps74
    go_wp2
    go_loopw [5] (fun t wr => ∃ k : Nat, k ≤ n ∧ t = .int .i64 k ∧ Below w.heap.size w wr) (fun t _ => n - (intOf t).toNat)
    case atStart => exact ⟨0, Nat.zero_le _, rfl, Below.refl _ _⟩
    case round =>
      obtain ⟨k, hk, rfl, hbel⟩ := hrel
      by_cases hlt : k < n
      · have hx := (hbel.cell (p := ⟨b, off + k, none⟩) (Rd.lt hca (by omega))).trans (hca k hlt)
        have hy := (hbel.cell (p := ⟨b', off' + k, none⟩) (Rd.lt hcb (by omega))).trans (hcb k hlt)
        have hxy := hfg k hlt
        rw [← hxy] at hy
        generalize f k = x at *
        clear hfg hca hcb hxy
        have hb : ((x : Int) != (x : Int)) = false := by simp
        go_wp2
        go_region
        all_goals go_wp2
        all_goals go_roundw
        case rel => exact ⟨k + 1, by omega, by go_num, hbel.drew⟩
        case measure => simp [intOf]; omega
      · go_wp2
        go_ret
        exact ⟨rfl, hbel⟩

end Go.Proofs.YtjbocfhmfidjjaaDoor
