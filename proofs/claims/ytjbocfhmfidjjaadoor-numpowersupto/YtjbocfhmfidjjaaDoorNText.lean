/-
  What is proved here: num.Text says a number with its sign.
-/
import Derived.Test.YtjbocfhmfidjjaaDoorNOf
namespace Go.Proofs.YtjbocfhmfidjjaaDoor
open Go Go.RowKit

/-- s is the decimal text of z. -/
def SaysZ (s : ByteArray) (z : Int) : Prop := (0 ≤ z ∧ Says s z.natAbs) ∨ (z < 0 ∧ ∃ t, s = ⟨#[45]⟩ ++ t ∧ Says t z.natAbs)

set_option maxRecDepth 4000 in
set_option maxHeartbeats 1000000 in
theorem sizeText_any (v : Value) (n : Nat) (f : Nat → Nat) (w : World) (hv : Sl .u32 w v n f) (hf : ∀ i, i < n → f i < 4294967296) (hn : 100 * (n + 1) ≤ 140737488355328) (htab : Tab w) :
    Calls Tryd.prog 72 #[v] w fun e w' => ∃ s, e = .returned (.string s) ∧ Up w w' ∧ s.size ≤ 18 * n + 20 ∧ Says s (num 4294967296 f n) := by
  go_enter Tryd.func72, Tryd.ntmps72
  go_wp2_with fail
  refine (text_tab v n f w hv hf hn htab).mono ?_
  rintro e w1 ⟨s, rfl, u1, l1, s1⟩
  have HS := hide s1
  clear s1
  go_wp2_with fail
  go_ret
  exact ⟨s, rfl, u1, l1, unhide HS⟩

theorem three_blocks (w : World) (A B C : Obj) : (((w.alloc A).alloc B).alloc C).heap[w.heap.size]? = some A ∧ (((w.alloc A).alloc B).alloc C).heap[w.heap.size + 1]? = some B ∧ (((w.alloc A).alloc B).alloc C).heap[w.heap.size + 1 + 1]? = some C := by
  obtain ⟨h1, h2⟩ := two_blocks w A B
  refine ⟨(Below.heap_alloc _ _ _ (by first | (simp; done) | (simp; omega))).trans h1, (Below.heap_alloc _ _ _ (by first | (simp; done) | (simp; omega))).trans h2, ?_⟩
  have := heap_alloc_new ((w.alloc A).alloc B) C
  simpa using this
theorem four_blocks (w : World) (A B C D : Obj) : ((((w.alloc A).alloc B).alloc C).alloc D).heap[w.heap.size]? = some A ∧ ((((w.alloc A).alloc B).alloc C).alloc D).heap[w.heap.size + 1]? = some B ∧ ((((w.alloc A).alloc B).alloc C).alloc D).heap[w.heap.size + 1 + 1]? = some C ∧ ((((w.alloc A).alloc B).alloc C).alloc D).heap[w.heap.size + 1 + 1 + 1]? = some D := by
  obtain ⟨h1, h2, h3⟩ := three_blocks w A B C
  refine ⟨(Below.heap_alloc _ _ _ (by first | (simp; done) | (simp; omega))).trans h1, (Below.heap_alloc _ _ _ (by first | (simp; done) | (simp; omega))).trans h2, (Below.heap_alloc _ _ _ (by first | (simp; done) | (simp; omega))).trans h3, ?_⟩
  have := heap_alloc_new (((w.alloc A).alloc B).alloc C) D
  simpa using this
/-- Cells of other blocks stay. -/
theorem keep2 {w : World} {g p i : Nat} {x y v : Value} (hne : p ≠ g) (h : w.cell? ⟨p, i, none⟩ = some v) : ((w.setCell ⟨g, 0, none⟩ x).setCell ⟨g, 1, none⟩ y).cell? ⟨p, i, none⟩ = some v :=
  (World.cell?_of_block (a := ⟨p, i, none⟩) ((heap_setCell_other _ _ _ _ (show p ≠ g from hne)).trans (heap_setCell_other _ _ _ _ (show p ≠ g from hne)))).trans h

set_option maxRecDepth 4000 in
set_option maxHeartbeats 1000000 in
theorem textz_any (a : Value) (b : Bool) (n : Nat) (f : Nat → Nat) (w : World) (ha : Nm w a b n f) (hd : ∀ i, i < n → f i < 4294967296) (hn : 100 * (n + 1) ≤ 140737488355328) (htab : Tab w) :
    Calls Tryd.prog 44 #[a] w fun e w' => ∃ s, e = .returned (.string s) ∧ Up w w' ∧ s.size ≤ 18 * n + 21 ∧ SaysZ s (sgn b (num 4294967296 f n)) := by
  obtain ⟨v, rfl, hv⟩ := ha
  obtain ⟨ao, cap, rfl, -⟩ := id hv
  go_enter Tryd.func44, Tryd.ntmps44
  go_wp2_with fail
  refine (work_any _ b n f _ ⟨_, rfl, hv.up (up_alloc _ _)⟩ hd).mono ?_
  rintro e w1 ⟨a1, b1, m1, rfl, hw1, u1, c1, l1, s1⟩
  obtain ⟨v1, rfl, sv1⟩ := hw1 w ⟨_, rfl, hv⟩
  obtain ⟨ao1, cap1, rfl, -⟩ := id sv1
  have HS1 := hide s1
  clear s1 hw1
  have U1 : Up w w1 := (up_alloc w _).tr u1
  cases b1
  · go_wp2_with fail
    refine (sizeText_any _ m1 f _ (sv1.up (U1.tr (up_alloc _ _))) c1.1.1 (by omega) (htab.up (U1.tr (up_alloc _ _)))).mono ?_
    rintro e w2 ⟨s, rfl, u2, l2, s2⟩
    have HS2 := hide s2
    clear s2
    go_wp2_with fail
    go_ret
    refine ⟨s, rfl, (U1.tr (up_alloc _ _)).tr u2, by omega, .inl ?_⟩
    rw [← unhide HS1]
    have := unhide HS2
    simp only [sgn]
    simpa using this
  · go_wp2_with fail
    refine (sizeText_any _ m1 f _ (sv1.up (U1.tr (up_alloc _ _))) c1.1.1 (by omega) (htab.up (U1.tr (up_alloc _ _)))).mono ?_
    rintro e w2 ⟨s, rfl, u2, l2, s2⟩
    have HS2 := hide s2
    clear s2
    go_wp2_with fail
    go_ret
    refine ⟨_, rfl, (U1.tr (up_alloc _ _)).tr u2, by rw [ByteArray.size_append]; show 1 + s.size ≤ _; omega, .inr ?_⟩
    rw [← unhide HS1]
    have h1 := unhide HS2
    have h2 := num_pos c1.1 (c1.2 rfl)
    simp only [sgn]
    refine ⟨by simp; omega, s, rfl, by simpa using h1⟩

end Go.Proofs.YtjbocfhmfidjjaaDoor
