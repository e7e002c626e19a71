/-
  What is proved here: nat.Add and nat.Mul of three numbers, out of the contracts for as many as one likes.
-/
import Derived.Test.YtpagphcioeefdaaDoorUp
namespace Go.Proofs.YtpagphcioeefdaaDoor
open Go Go.RowKit

/-- One slice in a block of its own: the third of three. -/
theorem rds_one (w : World) (x : Value) : Rds (w.alloc (.cells #[x] 22)) (some ⟨w.heap.size, 0, none⟩) 1 (fun _ => x) :=
  .inr ⟨w.heap.size, 0, rfl, fun i hi => by
    obtain rfl : i = 0 := (by omega)
    rw [cell_of_row _ _ _ _ _ _ (heap_alloc_new w _)]
    rfl⟩

theorem add3 (v u x : Value) (n m r M : Nat) (f q h : Nat → Nat) (w : World) (hv : Sl .u32 w v n f) (hu : Sl .u32 w u m q) (hx : Sl .u32 w x r h)
    (hf : ∀ i, i < n → f i < 4294967296) (hq : ∀ i, i < m → q i < 4294967296) (hh : ∀ i, i < r → h i < 4294967296) (hn : n ≤ M) (hm : m ≤ M) (hr : r ≤ M) (hM : 4 * (M + 1) ≤ 281474976710656) :
    Calls Tryd.prog 16 #[v, u, .slice (some ⟨w.heap.size, 0, none⟩) 1 1] (w.alloc (.cells #[x] 22)) fun e w' => ∃ v' n' f', e = .returned v' ∧ Own .u32 41 w' w.heap.size v' n' f' ∧ Below w.heap.size w w' ∧ Can 4294967296 f' n' ∧ n' ≤ M + 1 ∧
      num 4294967296 f' n' = num 4294967296 f n + num 4294967296 q m + num 4294967296 h r := by
  have ua : Up w (w.alloc (.cells #[x] 22)) := below_alloc _ _
  refine (add_any v u n m 1 1 M f q _ (fun _ => x) (fun _ => r) (fun _ => h) _ (hv.up ua) (hu.up ua) (rds_one w x) (fun i _ => hx.up ua) hf hq (fun _ _ => hh) hn hm (fun _ _ => hr) hM (by omega)).mono ?_
  rintro e w' ⟨v', n', f', rfl, h1, h2, h3, h4, h5⟩
  exact ⟨v', n', f', rfl, h1.mono (by simp), ua.tr h2, h3, h4, by simpa [total] using h5⟩

theorem mul3 (v u x : Value) (n m r : Nat) (f q h : Nat → Nat) (w : World) (hv : Sl .u32 w v n f) (hu : Sl .u32 w u m q) (hx : Sl .u32 w x r h)
    (hf : ∀ i, i < n → f i < 4294967296) (hq : ∀ i, i < m → q i < 4294967296) (hh : ∀ i, i < r → h i < 4294967296) (hM : 4 * (n + m + r) ≤ 281474976710656) :
    Calls Tryd.prog 19 #[v, u, .slice (some ⟨w.heap.size, 0, none⟩) 1 1] (w.alloc (.cells #[x] 22)) fun e w' => ∃ v' n' f', e = .returned v' ∧ Own .u32 41 w' w.heap.size v' n' f' ∧ Below w.heap.size w w' ∧ Can 4294967296 f' n' ∧ n' ≤ n + m + r ∧
      num 4294967296 f' n' = num 4294967296 f n * num 4294967296 q m * num 4294967296 h r := by
  have ua : Up w (w.alloc (.cells #[x] 22)) := below_alloc _ _
  refine (mul_any v u n m 1 1 f q _ (fun _ => x) (fun _ => r) (fun _ => h) _ (hv.up ua) (hu.up ua) (rds_one w x) (fun e => by cases e) (fun i _ => hx.up ua) hf hq (fun _ _ => hh) (by simp [sumN]; omega) (by omega)).mono ?_
  rintro e w' ⟨v', n', f', rfl, h1, h2, h3, h4, h5⟩
  exact ⟨v', n', f', rfl, h1.mono (by simp), ua.tr h2, h3, by simpa [sumN] using h4, by simpa [prodN] using h5⟩

end Go.Proofs.YtpagphcioeefdaaDoor
