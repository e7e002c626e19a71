/-
  What is proved here: the document's own Canon, Neg and Int (chapter 2), by values.
-/
import Derived.Test.YtdiacbfdfoeemaaDoorR2Of
namespace Go.Proofs.YtdiacbfdfoeemaaDoor
open Go Go.RowKit

set_option maxRecDepth 4000 in
set_option maxHeartbeats 1000000 in
theorem r2canon_any (a : Value) (b : Bool) (n : Nat) (f : Nat → Nat) (w : World) (hs : Nm w a b n f) (hd : ∀ i, i < n → f i < 4294967296) (hn : 2 * n + 1 ≤ 10000000000) :
    Calls Tryd.prog 53 #[a] w fun e w' => ∃ a b' m f', e = .returned a ∧ OwnN w' w.heap.size a b' m f' ∧ Up w w' ∧ CanZ b' f' m ∧ m ≤ n ∧ sgn b' (num 4294967296 f' m) = sgn b (num 4294967296 f n) := by
  obtain ⟨v, rfl, hs⟩ := hs
  obtain ⟨ao, cap, rfl, -⟩ := id hs
  go_enter Tryd.func53, Tryd.ntmps53
  go_wp2_with fail
  refine (r2of_any b _ n f _ ((hs.up (up_alloc _ _)).up (up_alloc _ _)) hd hn).mono ?_
  rintro e w2 ⟨a2, b2, m, f', rfl, ⟨v2, rfl, o⟩, u, c, l, s⟩
  have HS := hide s
  clear s
  obtain ⟨ao2, cap2, rfl, -⟩ := id o.sl
  obtain ⟨d0, d1, g0, g1, lt, e0, e1⟩ := res2 (w.heap.size + 1) (by simp) u
  go_wp2_with fail
  refine bodyPost_ret (by simp [results, Tryd.results53, go_sem, e0, e1]; rfl) rfl ?_
  exact ⟨_, b2, m, _, rfl, ⟨_, rfl, (o.set2 (by simp)).mono (by simp; omega)⟩, Up.set2 ((up_alloc w _).tr ((up_alloc _ _).tr u)) (by omega), c, l, unhide HS⟩

set_option maxRecDepth 4000 in
set_option maxHeartbeats 1000000 in
theorem r2neg_any (a : Value) (b : Bool) (n : Nat) (f : Nat → Nat) (w : World) (hs : Nm w a b n f) (hd : ∀ i, i < n → f i < 4294967296) (hn : 2 * n + 1 ≤ 10000000000) :
    Calls Tryd.prog 31 #[a] w fun e w' => ∃ a b' m f', e = .returned a ∧ OwnN w' w.heap.size a b' m f' ∧ Up w w' ∧ CanZ b' f' m ∧ m ≤ n ∧ sgn b' (num 4294967296 f' m) = sgn (!b) (num 4294967296 f n) := by
  obtain ⟨v, rfl, hs⟩ := hs
  obtain ⟨ao, cap, rfl, -⟩ := id hs
  go_enter Tryd.func31, Tryd.ntmps31
  go_wp2_with fail
  refine (r2of_any (!b) _ n f _ ((hs.up (up_alloc _ _)).up (up_alloc _ _)) hd hn).mono ?_
  rintro e w2 ⟨a2, b2, m, f', rfl, ⟨v2, rfl, o⟩, u, c, l, s⟩
  have HS := hide s
  clear s
  obtain ⟨ao2, cap2, rfl, -⟩ := id o.sl
  obtain ⟨d0, d1, g0, g1, lt, e0, e1⟩ := res2 (w.heap.size + 1) (by simp) u
  go_wp2_with fail
  refine bodyPost_ret (by simp [results, Tryd.results31, go_sem, e0, e1]; rfl) rfl ?_
  exact ⟨_, b2, m, _, rfl, ⟨_, rfl, (o.set2 (by simp)).mono (by simp; omega)⟩, Up.set2 ((up_alloc w _).tr ((up_alloc _ _).tr u)) (by omega), c, l, unhide HS⟩

theorem sgn_not (b : Bool) (x : Nat) : sgn (!b) x = - sgn b x := by
  cases b <;> simp [sgn]

theorem r2canon_rd {X : Int} {M : Nat} {w : World} {a : Value} (h : RdD X M w a) (hM : 2 * M + 1 ≤ 10000000000) :
    Calls Tryd.prog 53 #[a] w fun e w' => ∃ v, e = .returned v ∧ NumIn X M w' w.heap.size w'.heap.size v ∧ Up w w' := by
  obtain ⟨b, n, f, hn, d, l, s⟩ := h
  refine (r2canon_any a b n f w hn d (by omega)).mono ?_
  rintro e w' ⟨a', b', n', f', rfl, o, u, c, l', s'⟩
  exact ⟨a', rfl, ⟨b', n', f', CopIn.of o, c, by omega, by rw [s', s]⟩, u⟩
theorem r2neg_rd {X : Int} {M : Nat} {w : World} {a : Value} (h : RdD X M w a) (hM : 2 * M + 1 ≤ 10000000000) :
    Calls Tryd.prog 31 #[a] w fun e w' => ∃ v, e = .returned v ∧ NumIn (-X) M w' w.heap.size w'.heap.size v ∧ Up w w' := by
  obtain ⟨b, n, f, hn, d, l, s⟩ := h
  refine (r2neg_any a b n f w hn d (by omega)).mono ?_
  rintro e w' ⟨a', b', n', f', rfl, o, u, c, l', s'⟩
  exact ⟨a', rfl, ⟨b', n', f', CopIn.of o, c, by omega, by rw [s', sgn_not, s]⟩, u⟩

end Go.Proofs.YtdiacbfdfoeemaaDoor
