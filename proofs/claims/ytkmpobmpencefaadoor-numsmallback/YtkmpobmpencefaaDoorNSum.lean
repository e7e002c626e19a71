/-
  What is proved here: num.difference, num.total and num.sum: the sum of any numbers with their signs, canonical, in new memory.
-/
import Derived.Test.YtkmpobmpencefaaDoorNBase2
import Derived.Maps.AppendAt
namespace Go.Proofs.YtkmpobmpencefaaDoor
open Go Go.RowKit

theorem numberOf_own (base : Nat) (v : Value) (n : Nat) (f : Nat → Nat) (b : Bool) (w : World) (hv : Own .u32 64 w base v n f) (hc : Can 4294967296 f n) :
    Calls Tryd.prog 59 #[v, .bool b] w fun e w' => ∃ a b', e = .returned a ∧ OwnW w' base a b' n f ∧ Up w w' ∧ CanZ b' f n ∧ sgn b' (num 4294967296 f n) = sgn b (num 4294967296 f n) := by
  have hs := hv.sl
  obtain ⟨ao, cap, rfl, -⟩ := id hs
  obtain ⟨h3, h1, h2⟩ := hs.rd
  refine (numberOf_any ao n cap f b w h3 h1 h2).mono ?_
  rintro e w' ⟨m, hm, rfl, u, hz, ht⟩
  obtain rfl : m = n := by
    rcases Nat.lt_or_ge m n with hl | hl
    · exact absurd (hz (n - 1) (by omega) (by omega)) (by rcases hc.2 with h | h; omega; exact h)
    · omega
  exact ⟨_, _, rfl, ⟨_, rfl, hv.up u⟩, u, CanZ.of hc, sgn_cut⟩

set_option maxRecDepth 4000 in
set_option maxHeartbeats 1000000 in
theorem difference_any (v u : Value) (n m : Nat) (f h : Nat → Nat) (w : World) (hv : Sl .u32 w v n f) (hu : Sl .u32 w u m h) (hf : ∀ i, i < n → f i < 4294967296) (hh : ∀ i, i < m → h i < 4294967296) (hn : 4 * n ≤ 281474976710656) (hm : 4 * m ≤ 281474976710656) :
    Calls Tryd.prog 75 #[v, u] w fun e w' => ∃ a b k q, e = .returned a ∧ OwnW w' w.heap.size a b k q ∧ Up w w' ∧ CanZ b q k ∧ (k ≤ n ∨ k ≤ m) ∧ sgn b (num 4294967296 q k) = (num 4294967296 f n : Int) - num 4294967296 h m := by
  have hv' := hv.up (below_alloc w (.cells #[.slice none 0 0, .bool false] 51))
  have hu' := hu.up (below_alloc w (.cells #[.slice none 0 0, .bool false] 51))
  go_enter Tryd.func75, Tryd.ntmps75
  go_wp2_with fail
  by_cases hlt : num 4294967296 f n < num 4294967296 h m
  · have HLT := hide hlt
    clear hlt
    refine (sub_lt _ _ n m f h _ hv' hu' hf hh (unhide HLT)).mono ?_
    rintro e w1 ⟨rfl, u1⟩
    replace u1 : Up _ w1 := u1
    go_wp2_with fail
    refine (sub_ge _ _ m n h f _ (hu'.up u1) (hv'.up u1) hh hf hm (Nat.le_of_lt (unhide HLT))).mono ?_
    rintro e w2 ⟨v2, n2, f2, rfl, o2, u2, c2, l2, s2⟩
    replace u2 : Up w1 w2 := u2
    have HS2 := hide s2
    clear s2
    obtain ⟨ao2, cap2, rfl, -⟩ := id o2.sl
    go_wp2_with fail
    refine (numberOf_own w1.heap.size _ n2 f2 true _ o2 c2).mono ?_
    rintro e w3 ⟨a3, b3, rfl, o3, u3, c3, s3⟩
    have HS3 := hide s3
    clear s3
    obtain ⟨v3, rfl, o3⟩ := o3
    obtain ⟨ao3, cap3, rfl, -⟩ := id o3.sl
    obtain ⟨d0, d1, g0, g1, lt, e0, e1⟩ := res2 w.heap.size rfl ((u1.tr u2).tr u3)
    have hz1 : w.heap.size < w1.heap.size := by have := Below.size u1; simp at this; omega
    go_wp2_with fail
    refine bodyPost_ret (by simp [results, Tryd.results75, go_sem, e0, e1]; rfl) rfl ?_
    refine ⟨_, b3, n2, f2, rfl, ⟨_, rfl, (o3.set2 hz1).mono (by omega)⟩, Up.set2 ((up_alloc w _).tr ((u1.tr u2).tr u3)) (Nat.le_refl _), c3, .inr l2, ?_⟩
    have := unhide HS2
    rw [unhide HS3]
    simp only [sgn]
    simp
    omega
  · have HLT := hide hlt
    clear hlt
    refine (sub_ge _ _ n m f h _ hv' hu' hf hh hn (Nat.le_of_not_lt (unhide HLT))).mono ?_
    rintro e w2 ⟨v2, n2, f2, rfl, o2, u2, c2, l2, s2⟩
    replace u2 : Up _ w2 := u2
    have HS2 := hide s2
    clear s2
    obtain ⟨ao2, cap2, rfl, -⟩ := id o2.sl
    go_wp2_with fail
    refine (numberOf_own (w.heap.size + 1) _ n2 f2 false _ (o2.mono (by simp)) c2).mono ?_
    rintro e w3 ⟨a3, b3, rfl, o3, u3, c3, s3⟩
    have HS3 := hide s3
    clear s3
    obtain ⟨v3, rfl, o3⟩ := o3
    obtain ⟨ao3, cap3, rfl, -⟩ := id o3.sl
    obtain ⟨d0, d1, g0, g1, lt, e0, e1⟩ := res2 w.heap.size rfl (u2.tr u3)
    go_wp2_with fail
    refine bodyPost_ret (by simp [results, Tryd.results75, go_sem, e0, e1]; rfl) rfl ?_
    refine ⟨_, b3, n2, f2, rfl, ⟨_, rfl, (o3.set2 (by omega)).mono (by omega)⟩, Up.set2 ((up_alloc w _).tr (u2.tr u3)) (Nat.le_refl _), c3, .inl l2, ?_⟩
    have := unhide HS2
    rw [unhide HS3]
    simp only [sgn]
    simp
    omega

end Go.Proofs.YtkmpobmpencefaaDoor
