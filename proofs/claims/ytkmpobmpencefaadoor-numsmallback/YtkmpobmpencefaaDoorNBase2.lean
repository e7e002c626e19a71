/-
  What is proved here: what the statements of num share: tandemlaw02.c copies a number, tandemlaw02.same tells that two numbers are the same.
-/
import Derived.Test.YtkmpobmpencefaaDoorNBase
import Derived.Deep.RegionWith
namespace Go.Proofs.YtkmpobmpencefaaDoor
open Go Go.RowKit

/-- A number in memory of the call's own. -/
def OwnN (w : World) (base : Nat) (a : Value) (b : Bool) (n : Nat) (f : Nat → Nat) : Prop := ∃ v, a = .agg #[.bool b, v] ∧ Own .u32 64 w base v n f
def OwnW (w : World) (base : Nat) (a : Value) (b : Bool) (n : Nat) (f : Nat → Nat) : Prop := ∃ v, a = .agg #[v, .bool b] ∧ Own .u32 64 w base v n f
theorem OwnN.nm {w : World} {base : Nat} {a : Value} {b : Bool} {n : Nat} {f : Nat → Nat} (h : OwnN w base a b n f) : Nm w a b n f := by
  obtain ⟨v, e, o⟩ := h
  exact ⟨v, e, o.sl⟩
theorem OwnW.wk {w : World} {base : Nat} {a : Value} {b : Bool} {n : Nat} {f : Nat → Nat} (h : OwnW w base a b n f) : Wk w a b n f := by
  obtain ⟨v, e, o⟩ := h
  exact ⟨v, e, o.sl⟩
theorem Own.set2 {k : IntKind} {E : TypeId} {w : World} {base g : Nat} {v x y : Value} {n : Nat} {f : Nat → Nat} (h : Own k E w base v n f) (hg : g < base) : Own k E ((w.setCell ⟨g, 0, none⟩ x).setCell ⟨g, 1, none⟩ y) base v n f := by
  rcases h with ⟨rfl, rfl⟩ | ⟨g', cap, rfl, h1, h2, h3⟩
  · exact .inl ⟨rfl, rfl⟩
  · exact .inr ⟨g', cap, rfl, h1, h2, h3.block ((heap_setCell_other _ _ _ _ (by show g' ≠ g; omega)).trans (heap_setCell_other _ _ _ _ (by show g' ≠ g; omega)))⟩
theorem up_drew (w : World) : Up w w.drew := (Below.refl w.heap.size w).drew
theorem two_blocks (w : World) (A B : Obj) : ((w.alloc A).alloc B).heap[w.heap.size]? = some A ∧ ((w.alloc A).alloc B).heap[w.heap.size + 1]? = some B := by
  refine ⟨(Below.heap_alloc _ _ _ (by simp)).trans (heap_alloc_new w A), ?_⟩
  have := heap_alloc_new (w.alloc A) B
  simpa using this

theorem num_pos {f : Nat → Nat} {n : Nat} (h : Can 4294967296 f n) (hn : n ≠ 0) : 0 < num 4294967296 f n := by
  have h1 := num_ge (B := 4294967296) (f := f) (n := n) (by omega) (by rcases h.2 with h | h; omega; exact h)
  have : 0 < 4294967296 ^ (n - 1) := Nat.pos_of_ne_zero (by simp)
  omega
theorem sgn_inj {b : Bool} {x y : Nat} (h : sgn b x = sgn b y) : x = y := by
  cases b <;> simp [sgn] at h <;> omega
theorem sgn_sign {b c : Bool} {f g : Nat → Nat} {n m : Nat} (ca : CanZ b f n) (cu : CanZ c g m) (h : sgn b (num 4294967296 f n) = sgn c (num 4294967296 g m)) : b = c := by
  cases b <;> cases c
  · rfl
  · have := num_pos cu.1 (cu.2 rfl)
    simp [sgn] at h
    omega
  · have := num_pos ca.1 (ca.2 rfl)
    simp [sgn] at h
    omega
  · rfl

set_option maxRecDepth 4000 in
set_option maxHeartbeats 1000000 in
theorem cnum_any (a : Value) (b : Bool) (n : Nat) (f : Nat → Nat) (w : World) (hv : Nm w a b n f) (hn : 4 * n ≤ 140737488355328) :
    Calls Tryd.prog 24 #[a] w fun e w' => ∃ a', e = .returned a' ∧ OwnN w' w.heap.size a' b n f ∧ Up w w' := by
  obtain ⟨v, rfl, hv⟩ := hv
  obtain ⟨ao, cap, rfl, h1, h2, h0, h3⟩ := hv
  have h3' : Rd .u32 ((w.alloc (.cells #[.bool b, .slice ao n cap] 26)).alloc (.cells #[.bool false, .slice none 0 0] 26)).drew ao n f := h3.below (((up_alloc w _).tr (up_alloc _ _)).tr (up_drew _)) (Nat.le_refl _)
  go_enter Tryd.func24, Tryd.ntmps24
  go_wp2_with fail
  go_region_with (go_at_call 58; refine (copy_any _ _ _ f _ h3' h0 hn).mono ?_; rintro e w1 ⟨v1, rfl, o1, u1⟩; obtain ⟨ao1, cap1, rfl, -⟩ := id o1.sl; obtain ⟨c0, c1, f0, f1, lt⟩ := cells2 (Up.blk u1 (two_blocks w _ _).1); obtain ⟨d0, d1, g0, g1, lt1⟩ := cells2 (Up.blk u1 (two_blocks w _ _).2); obtain ⟨e0, e1⟩ := back2 (Up.blk u1 (two_blocks w _ _).2))
  all_goals
    go_wp2_with fail
    refine bodyPost_ret (by simp [results, Tryd.results24, go_sem, e0, e1]; rfl) rfl ?_
    exact ⟨_, rfl, ⟨_, rfl, (o1.set2 (by simp)).mono (by simp; omega)⟩, Up.set2 ((((up_alloc w _).tr (up_alloc _ _)).tr (up_drew _)).tr u1) (by omega)⟩

set_option maxRecDepth 4000 in
set_option maxHeartbeats 1000000 in
theorem sameNum_any (a u : Value) (b c : Bool) (n m : Nat) (f g : Nat → Nat) (w : World) (ha : Nm w a b n f) (hu : Nm w u c m g) (hb : b = c) (hs : n = m ∧ ∀ i, i < n → f i = g i) :
    Calls Tryd.prog 47 #[a, u] w fun e w' => e = .returned (.bool true) ∧ Up w w' := by
  subst hb
  obtain ⟨v, rfl, hv⟩ := ha
  obtain ⟨v', rfl, hu⟩ := hu
  obtain ⟨ao, cap, rfl, -⟩ := id hv
  obtain ⟨ao', cap', rfl, -⟩ := id hu
  have HS := hide hs
  clear hs
  obtain ⟨h3, h1, h2⟩ := ((hv.up (below_alloc w (.cells #[.bool b, .slice ao n cap] 26))).up (below_alloc _ (.cells #[.bool b, .slice ao' m cap'] 26))).rd
  obtain ⟨g3, g1, g2⟩ := ((hu.up (below_alloc w (.cells #[.bool b, .slice ao n cap] 26))).up (below_alloc _ (.cells #[.bool b, .slice ao' m cap'] 26))).rd
  go_enter Tryd.func47, Tryd.ntmps47
  cases b <;>
  · go_wp2_with fail
    refine (same_any _ _ _ _ _ _ f g _ h3 g3 (by omega) (by omega) (unhide HS)).mono ?_
    rintro e w1 ⟨rfl, u1⟩
    go_wp2_with fail
    go_ret
    exact ⟨rfl, ((up_alloc w _).tr (up_alloc _ _)).tr u1⟩

set_option maxRecDepth 4000 in
set_option maxHeartbeats 1000000 in
theorem samez_any (a u : Value) (b c : Bool) (n m : Nat) (f g : Nat → Nat) (w : World) (ha : Nm w a b n f) (hu : Nm w u c m g) (ca : CanZ b f n) (cu : CanZ c g m) (hs : sgn b (num 4294967296 f n) = sgn c (num 4294967296 g m)) :
    Calls Tryd.prog 16 #[a, u] w fun e w' => e = .returned (.bool true) ∧ Up w w' := by
  have hb : b = c := sgn_sign ca cu hs
  have hs' : n = m ∧ ∀ i, i < n → f i = g i := can_uniq (B := 4294967296) (by omega) ca.1 cu.1 (sgn_inj (b := c) (by rw [← hs, hb]))
  have HS := hide hs'
  clear hs hs' ca cu
  subst hb
  obtain ⟨v, rfl, hv⟩ := ha
  obtain ⟨v', rfl, hu⟩ := hu
  have hv' := (hv.up (below_alloc w (.cells #[.bool b, v] 26))).up (below_alloc _ (.cells #[.bool b, v'] 26))
  have hu' := (hu.up (below_alloc w (.cells #[.bool b, v] 26))).up (below_alloc _ (.cells #[.bool b, v'] 26))
  obtain ⟨ao, cap, rfl, -⟩ := id hv
  obtain ⟨ao', cap', rfl, -⟩ := id hu
  go_enter Tryd.func16, Tryd.ntmps16
  go_wp2_with fail
  refine (sameNum_any _ _ b b n m f g _ ⟨_, rfl, hv'⟩ ⟨_, rfl, hu'⟩ rfl (unhide HS)).mono ?_
  rintro e w1 ⟨rfl, u1⟩
  go_wp2_with fail
  go_ret
  exact ⟨rfl, ((up_alloc w _).tr (up_alloc _ _)).tr u1⟩

end Go.Proofs.YtkmpobmpencefaaDoor
