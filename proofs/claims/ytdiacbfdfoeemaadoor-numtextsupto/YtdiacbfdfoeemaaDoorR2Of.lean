/-
  What is proved here: the document's own Of (chapter 2) answers the number of a sign and a size, canonical.
-/
import Derived.Test.YtdiacbfdfoeemaaDoorNCon
import Derived.Test.YtdiacbfdfoeemaaDoorRef5
namespace Go.Proofs.YtdiacbfdfoeemaaDoor
open Go Go.RowKit

theorem rds_oneE (w : World) (x : Value) (E : TypeId) (g : Nat) (hg : g = w.heap.size) : Rds (w.alloc (.cells #[x] E)) (some ⟨g, 0, none⟩) 1 (fun _ => x) := by
  subst hg
  refine .inr ⟨w.heap.size, 0, rfl, fun i hi => ?_⟩
  obtain rfl : i = 0 := (by omega)
  rw [cell_of_row _ _ _ _ _ _ (heap_alloc_new w _)]
  rfl

/-- A canonical row is not longer than another that says the same. -/
theorem can_le {B : Nat} (hB : 0 < B) {f g : Nat → Nat} {n m : Nat} (hf : Can B f n) (hg : ∀ i, i < m → g i < B) (h : num B f n = num B g m) : n ≤ m := by
  apply Nat.le_of_not_lt
  intro hlt
  obtain ⟨k, rfl⟩ : ∃ k, n = k + 1 := ⟨n - 1, by omega⟩
  have h1 := num_lt hg
  have h2 : B ^ m ≤ B ^ k := Nat.pow_le_pow_right hB (by omega)
  have h3 : f k ≠ 0 := by
    rcases hf.2 with h0 | h0
    · omega
    · simpa using h0
  have h4 : num B f (k + 1) = num B f k + f k * B ^ k := rfl
  have h5 : 1 * B ^ k ≤ f k * B ^ k := Nat.mul_le_mul_right _ (by omega)
  omega

set_option maxRecDepth 4000 in
set_option maxHeartbeats 1000000 in
theorem r2of_any (b : Bool) (v : Value) (n : Nat) (f : Nat → Nat) (w : World) (hs : Sl .u32 w v n f) (hd : ∀ i, i < n → f i < 4294967296) (hn : 2 * n + 1 ≤ 10000000000) :
    Calls Tryd.prog 54 #[.bool b, v] w fun e w' => ∃ a b' m f', e = .returned a ∧ OwnN w' w.heap.size a b' m f' ∧ Up w w' ∧ CanZ b' f' m ∧ m ≤ n ∧ sgn b' (num 4294967296 f' m) = sgn b (num 4294967296 f n) := by
  obtain ⟨ao, cap, rfl, -⟩ := id hs
  have fin : ∀ (m : Nat) (f' : Nat → Nat), Can 4294967296 f' m → num 4294967296 f' m = total (fun _ => n) (fun _ => f) 1 → m ≤ n ∧ num 4294967296 f' m = num 4294967296 f n := by
    intro m f' c s
    have s' : num 4294967296 f' m = num 4294967296 f n := by
      rw [s]
      simp [total]
    exact ⟨can_le (by decide) c hd s', s'⟩
  have FIN := hide fin
  clear fin
  go_enter Tryd.func54, Tryd.ntmps54
  go_wp2_with fail
  refine (rAdd_any 1 1 n _ (fun _ => .slice ao n cap) (fun _ => n) (fun _ => f) _ (rds_oneE _ _ _ _ (by simp)) (fun i _ => (hs.up (up_alloc _ _)).up (up_alloc _ _)) (fun j _ => hd) (fun j _ => Nat.le_refl _) (by omega)).mono ?_
  rintro e w2 ⟨m, f', v', rfl, o, u, c, s⟩
  obtain ⟨l, s'⟩ := unhide FIN m f' c s
  have HS := hide s'
  clear s s' FIN
  obtain ⟨ao2, cap2, rfl, -⟩ := id o.sl
  obtain ⟨d0, d1, g0, g1, lt, e0, e1⟩ := res2 w.heap.size rfl ((up_alloc _ _).tr u)
  have hz : CanZ (b && !decide (m = 0)) f' m := CanZ.of c
  by_cases hm : m = 0
  · subst hm
    cases b <;>
    · go_wp2_with fail
      refine bodyPost_ret (by simp [results, Tryd.results54, go_sem, e0, e1]; rfl) rfl ?_
      refine ⟨_, _, 0, _, rfl, ⟨_, rfl, (o.set2 (by simp; omega)).mono (by simp; omega)⟩, Up.set2 ((up_alloc w _).tr ((up_alloc _ _).tr u)) (Nat.le_refl _), by simpa using hz, l, ?_⟩
      rw [← unhide HS]
      try simp [sgn, num]
  · have hm1 : 0 < m := by omega
    cases b <;>
    · go_wp2_with fail
      refine bodyPost_ret (by simp [results, Tryd.results54, go_sem, e0, e1]; rfl) rfl ?_
      refine ⟨_, _, m, _, rfl, ⟨_, rfl, (o.set2 (by simp; omega)).mono (by simp; omega)⟩, Up.set2 ((up_alloc w _).tr ((up_alloc _ _).tr u)) (Nat.le_refl _), by simpa [hm] using hz, l, ?_⟩
      rw [← unhide HS]

end Go.Proofs.YtdiacbfdfoeemaaDoor
