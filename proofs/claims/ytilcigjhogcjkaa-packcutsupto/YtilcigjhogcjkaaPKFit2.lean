/-
  What is proved here: what may be written (package pack): isCanonical, restFits, fits.
-/
import Derived.Test.YtilcigjhogcjkaaPKFit
import Derived.Test.YtilcigjhogcjkaaPKRow
import Derived.Deep.CutRange
namespace Go.Proofs.Ytilcigjhogcjkaa
open Go Go.RowKit

theorem fieldsOf_any (w : World) (k : Int) : Calls Try.prog 68 #[.int .i64 k] w fun e w' => FieldsEnd w k e w' := by
  by_cases h : 1 ≤ k ∧ k ≤ 9
  · have hk : k = 1 ∨ k = 2 ∨ k = 3 ∨ k = 4 ∨ k = 5 ∨ k = 6 ∨ k = 7 ∨ k = 8 ∨ k = 9 := by omega
    rcases hk with rfl | rfl | rfl | rfl | rfl | rfl | rfl | rfl | rfl
    · exact fieldsOf_1 w
    · exact fieldsOf_2 w
    · exact fieldsOf_3 w
    · exact fieldsOf_4 w
    · exact fieldsOf_5 w
    · exact fieldsOf_6 w
    · exact fieldsOf_7 w
    · exact fieldsOf_8 w
    · exact fieldsOf_9 w
  · exact fieldsOf_0 w k h

set_option maxRecDepth 20000 in
theorem isCanonical_any (w0 w : World) (b : Bool) (L : List Nat) (um : Value) (hS : Sl .u32 w0 um L.length (fun i => L.getD i 0)) (hU : Up w0 w) (hlim : ∀ i, i < L.length → L.getD i 0 < 4294967296) :
    Calls Try.prog 69 #[.agg #[.bool b, um]] w fun e w' => e = .returned (.bool (canB b L)) ∧ Fr (fun _ => False) w w' := by
  obtain ⟨ao, cap, rfl, hc1, hc2, hc3, hrd⟩ := hS
  by_cases h0 : L.length = 0
  · have g0 : ((L.length : Int) == 0) = true := by rw [h0]; rfl
    have HE : Hid (canB b L = !b) := by unfold Hid canB; rw [if_pos h0]
    clear hrd h0
    generalize canB b L = cb at *
    go_enter Try.func69, Try.ntmps69
    go_wp2
    go_ret
    exact ⟨by rw [HE.out]; rfl, (Fr.refl _ _).alloc _⟩
  · have g0 : ((L.length : Int) == 0) = false := by rw [beq_eq_false_iff_ne]; omega
    obtain ⟨m, hm⟩ : ∃ m, L.length = m + 1 := ⟨L.length - 1, by omega⟩
    obtain ⟨g, off, ea, hc⟩ : ∃ g off, ao = some ⟨g, off, none⟩ ∧ w.cell? ⟨g, off + m, none⟩ = some (.int .u32 ((L.getD m 0 : Nat) : Int)) := by
      rcases hrd with e | ⟨g, off, ea, hc⟩
      · omega
      · have h1 := hc m (by omega)
        exact ⟨g, off, ea, (World.cell?_of_block (hU.block g (World.block_lt_of_cell? w0 _ h1))).trans h1⟩
    subst ea
    have hx := hlim m (by omega)
    have HE : Hid (canB b L = !(L.getD m 0 == 0)) := by unfold Hid canB; rw [if_neg h0, hm]; rfl
    have hgl : g < w.heap.size := World.block_lt_of_cell? w _ hc
    have e1 : ((m + 1 : Nat) : Int) - 1 = (m : Int) := by omega
    rw [hm] at g0 hc1 ⊢
    clear hrd h0 hm hlim
    generalize L.getD m 0 = x at *
    generalize canB b L = cb at *
    by_cases hx0 : x = 0
    · have g1 : (((x : Nat) : Int) != 0) = false := by rw [hx0]; rfl
      have HF : Hid (cb = false) := by unfold Hid; rw [HE.out, hx0]; rfl
      clear HE hx0
      go_enter Try.func69, Try.ntmps69
      go_wp2
      go_ret
      exact ⟨by rw [HF.out]; rfl, (Fr.refl _ _).alloc _⟩
    · have g1 : (((x : Nat) : Int) != 0) = true := by rw [bne_iff_ne]; omega
      have HF : Hid (cb = true) := by unfold Hid; rw [HE.out]; simp [hx0]
      clear HE hx0
      go_enter Try.func69, Try.ntmps69
      go_wp2
      go_ret
      exact ⟨by rw [HF.out]; rfl, (Fr.refl _ _).alloc _⟩

/-- The kind of the first of a row. -/
theorem row_kind {w0 W : World} {h : Nat} {R : List (Tr h)} {ao : Option Addr} {n cap : Nat} (hr : RowD w0 (DatC w0 h) (.slice ao n cap) R) (u : Up w0 W) (hi : 0 < R.length) : ∃ b off, ao = some ⟨b, off, none⟩ ∧ W.cell? ⟨b, off, none⟩ = some (.int .i64 (kdT h R[0])) := by
  obtain ⟨-, b, off, rfl, cs, k1, k2, k3⟩ := hr.get hi
  have hb : b < w0.heap.size := by
    have k0 := k2 0 (by decide)
    have : cs[0]? = some (cs[0]'(by omega)) := List.getElem?_eq_getElem (by omega)
    rw [this] at k0
    exact World.block_lt_of_cell? w0 _ k0
  have h0 := (u.cell (p := ⟨b, off + 0 * 7 + 0, none⟩) hb).trans (k2 0 (by decide))
  refine ⟨b, off, rfl, ?_⟩
  generalize R[0] = r at *
  cases h with
  | zero => exact (show Empty from r).elim
  | succ h =>
    obtain ⟨k, n, b', L, t, I, R'⟩ := r
    obtain ⟨um, ui, ur, e, -⟩ := k3
    rw [e] at h0
    exact (by simpa using h0 : W.cell? ⟨b, off, none⟩ = some (.int .i64 k))

set_option maxRecDepth 20000 in
set_option maxHeartbeats 1000000 in
theorem restFits_any {h : Nat} (w0 w : World) (k n : Int) (b : Bool) (um : Value) (t : ByteArray) (I R : List (Tr h)) (a1 a2 a3 : Option Addr) (l1 p1 p2 p3 : Nat) (hum : um = .slice a1 l1 p1) (hR : RowD w0 (DatC w0 h) (.slice a3 R.length p3) R) (hU : Up w0 w) :
    Calls Try.prog 70 #[.agg #[.int .i64 k, .int .i64 n, .bool b, um, .string t, .slice a2 I.length p2, .slice a3 R.length p3]] w fun e w' => e = .returned (.bool (restF k I.length R)) ∧ Fr (fun _ => False) w w' := by
  subst hum
  have hcap : R.length ≤ p3 ∧ p3 ≤ 9223372036854775807 := by
    obtain ⟨ao', cap', e, q1, q2, -⟩ := hR
    cases e
    exact ⟨q1, q2⟩
  match R, hR, hcap with
  | [], hR, hcap =>
    clear hR
    go_enter Try.func70, Try.ntmps70
    go_wp2
    go_ret
    exact ⟨rfl, (Fr.refl _ _).alloc _⟩
  | [r], hR, hcap =>
    obtain ⟨g, off, ea, hc⟩ := row_kind hR hU (by simp)
    subst ea
    replace hc : w.cell? ⟨g, off, none⟩ = some (.int .i64 (kdT h r)) := hc
    have hgl : g < w.heap.size := World.block_lt_of_cell? w _ hc
    have HE : Hid (restF k I.length [r] = (decide (k = 6) && (decide (0 < I.length) && !decide (kdT h r = 6)))) := rfl
    clear hR
    generalize kdT h r = kr at *
    generalize restF k I.length [r] = rf at *
    by_cases h1 : k = 6
    · have g1 : (k == 6) = true := by rw [h1]; rfl
      by_cases h2 : 0 < I.length
      · have g2 : decide (0 < I.length) = true := decide_eq_true h2
        have g3 : (0 : Int) < (I.length : Int) := by omega
        by_cases h3 : kr = 6
        · have g4 : (kr != 6) = false := by rw [h3]; rfl
          have HF : Hid (rf = false) := by unfold Hid; rw [HE.out]; simp [h3]
          clear HE h1 h3
          go_enter Try.func70, Try.ntmps70
          go_wp2
          go_ret
          exact ⟨by rw [HF.out]; rfl, (Fr.refl _ _).alloc _⟩
        · have g4 : (kr != 6) = true := by rw [bne_iff_ne]; exact h3
          have HF : Hid (rf = true) := by unfold Hid; rw [HE.out]; simp [h1, h2, h3]
          clear HE h1 h3
          go_enter Try.func70, Try.ntmps70
          go_wp2
          go_ret
          exact ⟨by rw [HF.out]; rfl, (Fr.refl _ _).alloc _⟩
      · have g2 : decide (0 < I.length) = false := decide_eq_false h2
        have g3 : ¬ (0 : Int) < (I.length : Int) := by omega
        have HF : Hid (rf = false) := by unfold Hid; rw [HE.out]; simp [h2]
        clear HE h1
        go_enter Try.func70, Try.ntmps70
        go_wp2
        go_ret
        exact ⟨by rw [HF.out]; rfl, (Fr.refl _ _).alloc _⟩
    · have g1 : (k == 6) = false := by rw [beq_eq_false_iff_ne]; exact h1
      have HF : Hid (rf = false) := by unfold Hid; rw [HE.out]; simp [h1]
      clear HE h1
      go_enter Try.func70, Try.ntmps70
      go_wp2
      go_ret
      exact ⟨by rw [HF.out]; rfl, (Fr.refl _ _).alloc _⟩
  | r :: r' :: R, hR, hcap =>
    have g0 : (((r :: r' :: R).length : Int) == 0) = false := by rw [beq_eq_false_iff_ne]; simp only [List.length_cons]; omega
    have g1 : (((r :: r' :: R).length : Int) == 1) = false := by rw [beq_eq_false_iff_ne]; simp only [List.length_cons]; omega
    have HE : Hid (restF k I.length (r :: r' :: R) = false) := rfl
    clear hR
    generalize restF k I.length (r :: r' :: R) = rf at *
    generalize (r :: r' :: R).length = m at *
    go_enter Try.func70, Try.ntmps70
    go_wp2
    go_ret
    exact ⟨by rw [HE.out]; rfl, (Fr.refl _ _).alloc _⟩

end Go.Proofs.Ytilcigjhogcjkaa
