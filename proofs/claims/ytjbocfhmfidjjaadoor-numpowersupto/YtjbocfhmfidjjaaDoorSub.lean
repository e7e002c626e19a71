/-
  What is proved here: nat.Sub answers the canonical limbs of the difference and true; nothing and false, where the first number is below the second.
-/
import Derived.Test.YtjbocfhmfidjjaaDoorAdd
import Derived.Test.YtjbocfhmfidjjaaDoorCmp
namespace Go.Proofs.YtjbocfhmfidjjaaDoor
open Go Go.RowKit

set_option maxHeartbeats 1000000 in
theorem sub_lt (v u : Value) (n m : Nat) (f h : Nat → Nat) (w : World) (hv : Sl .u32 w v n f) (hu : Sl .u32 w u m h) (hf : ∀ i, i < n → f i < 4294967296) (hh : ∀ i, i < m → h i < 4294967296)
    (hlt : num 4294967296 f n < num 4294967296 h m) :
    Calls Tryd.prog 99 #[v, u] w fun e w' => e = .returned (.tuple #[.slice none 0 0, .bool false]) ∧ Below w.heap.size w w' := by
  go_enter Tryd.func99, Tryd.ntmps99
  go_wp2_with fail
  refine (cmp_any _ _ _ _ f h _ hv hu hf hh).mono ?_
  rintro e w1 ⟨rfl, hb⟩
  rw [cmpN_lt hlt]
  go_wp2_with fail
  go_ret2
  exact ⟨rfl, hb⟩

/-- Taking a list from a whole block of limbs that is not below it. -/
theorem takeWhole (g N m capb : Nat) (f h : Nat → Nat) (bo : Option Addr) (w : World)
    (hrow : RowAt .u32 64 w g N N f) (hb : Rd .u32 w bo m h) (hsep : ∀ a, bo = some a → m ≠ 0 → a.block ≠ g) (hmn : m ≤ N) (hn : N ≤ 9223372036854775807)
    (hf : ∀ i, i < N → f i < 4294967296) (hh : ∀ i, i < m → h i < 4294967296) (hfit : num 4294967296 h m ≤ num 4294967296 f N) :
    Calls Tryd.prog 115 #[.slice (some ⟨g, 0, none⟩) N N, .slice bo m capb] w fun e w' => e = .returned (.tuple #[]) ∧ ∃ f', RowAt .u32 64 w' g N N f' ∧ Only g w w' ∧ (∀ i, i < N → f' i < 4294967296) ∧ num 4294967296 f' N + num 4294967296 h m = num 4294967296 f N := by
  refine (takeFrom_any g 0 N N N m N capb f h bo w hrow (by omega) hb hsep hmn hn (by simpa using hf) hh).mono ?_
  rintro e w' ⟨rfl, f', c, h1, h2, h3⟩
  obtain ⟨h4, h5, h6, h7⟩ := h3
  simp only [Nat.zero_add] at h6
  have e0 : ∀ q : Nat → Nat, (fun i => q (0 + i)) = q := fun q => by funext i; rw [Nat.zero_add]
  rw [num_cut hmn, e0, e0] at h7
  refine ⟨rfl, f', h1, h2, h6, ?_⟩
  have hlt := num_lt h6
  by_cases hc : c = 0
  · subst hc; omega
  · have : 1 * 4294967296 ^ N ≤ c * 4294967296 ^ N := Nat.mul_le_mul_right _ (by omega)
    omega

set_option maxHeartbeats 1000000 in
theorem sub_ge (v u : Value) (n m : Nat) (f h : Nat → Nat) (w : World) (hv : Sl .u32 w v n f) (hu : Sl .u32 w u m h) (hf : ∀ i, i < n → f i < 4294967296) (hh : ∀ i, i < m → h i < 4294967296)
    (hn : 4 * n ≤ 281474976710656) (hle : num 4294967296 h m ≤ num 4294967296 f n) :
    Calls Tryd.prog 99 #[v, u] w fun e w' => ∃ v' n' f', e = .returned (.tuple #[v', .bool true]) ∧ Own .u32 64 w' w.heap.size v' n' f' ∧ Below w.heap.size w w' ∧ Can 4294967296 f' n' ∧ n' ≤ n ∧
      num 4294967296 f' n' + num 4294967296 h m = num 4294967296 f n := by
  have hc0 : ¬ cmpN (num 4294967296 f n) (num 4294967296 h m) < 0 := by unfold cmpN; split <;> (try split) <;> omega
  obtain ⟨ao, cap, ev, h1, h2, h0, h3⟩ := id hv
  obtain ⟨bo, capb, eu, g1, g2, g0, g3⟩ := id hu
  subst ev eu
  go_enter Tryd.func99, Tryd.ntmps99
  go_wp2_with fail
  refine (cmp_any _ _ _ _ f h _ hv hu hf hh).mono ?_
  rintro e w1 ⟨rfl, hb1⟩
  generalize cmpN (num 4294967296 f n) (num 4294967296 h m) = cc at *
  clear hv hu h0 g0
  go_wp2_with fail
  refine (trim_any _ _ _ f _ (h3.below hb1 (Nat.le_refl _)) h1 h2).mono ?_
  rintro e w1 ⟨rfl, p, hp, rfl, zp, tp⟩
  go_wp2_with fail
  refine (clone_any _ _ _ f _ ((h3.below hb1 (Nat.le_refl _)).mono hp) (by omega)).mono ?_
  rintro e w2 ⟨rfl, hr2, hb2⟩
  have hb2' := hb1.trans (hb2.mono hb1.size)
  go_wp2_with fail
  refine (trim_any _ _ _ h _ (g3.below hb2' (Nat.le_refl _)) g1 g2).mono ?_
  rintro e w2 ⟨rfl, q, hq, rfl, zq, tq⟩
  have e1 := num_tail (B := 4294967296) hp zp
  have e2 := num_tail (B := 4294967296) hq zq
  have hqp : q ≤ p := by
    apply Nat.le_of_not_lt
    intro hl
    have := can_lt (B := 4294967296) (by decide) (fun i hi => hf i (Nat.lt_of_lt_of_le hi hp)) ⟨fun i hi => hh i (Nat.lt_of_lt_of_le hi hq), tq⟩ hl
    omega
  have sep := (g3.mono hq).apart hb1.size
  have hsz1 := hb1.size
  have HE1 := hide e1
  have HE2 := hide e2
  clear e1 e2 hb1
  go_wp2_with fail
  refine (takeWhole _ p _ _ f h _ _ hr2 ((g3.below hb2' (Nat.le_refl _)).mono hq) sep hqp (by omega) (fun i hi => hf i (by omega)) (fun i hi => hh i (by omega)) (by rw [← unhide HE1, ← unhide HE2]; exact hle)).mono ?_
  rintro e w3 ⟨rfl, f3, hr3, ho3, hd3, hs3⟩
  have hb3 := Only.below hb2' ho3 (by omega)
  have HS3 := hide hs3
  clear hs3 ho3 hr2 hb2
  go_wp2_with fail
  refine (trim_any _ _ _ f3 _ hr3.rd (Nat.le_refl _) (by omega)).mono ?_
  rintro e w3 ⟨rfl, r, hr, rfl, zr, tr⟩
  go_wp2_with fail
  go_ret2
  refine ⟨_, r, f3, rfl, (hr3.mono hr).own (by omega) (by omega), hb3, can_of_trim hd3 hr tr, by omega, ?_⟩
  rw [← num_tail hr zr, unhide HE1, unhide HE2]
  exact unhide HS3

end Go.Proofs.YtjbocfhmfidjjaaDoor
