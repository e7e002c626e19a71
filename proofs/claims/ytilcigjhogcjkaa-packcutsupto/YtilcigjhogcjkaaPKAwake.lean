/-
  What is proved here: tandemlaw10.awake: a proto that is written comes to the bytes that the chapter shows.
-/
import Derived.Test.YtilcigjhogcjkaaPKSame
namespace Go.Proofs.Ytilcigjhogcjkaa
open Go Go.RowKit

/-- The proto of awake. -/
def exP : PC 1 := ⟨⟨#[]⟩, 0, 0, false, [(1, 0, 0), (13, 0, 0)], [((1 : Int), (0 : Int), false, [5], (⟨#[]⟩ : ByteArray), [], [])], []⟩
def exI : Array Value := #[.int .i64 1, .int .i64 0, .int .i64 0, .int .i64 13, .int .i64 0, .int .i64 0]
def exD (g : Nat) : Array Value := #[.int .i64 1, .int .i64 0, .bool false, .slice (some ⟨g + 1, 0, none⟩) 1 1, .string ⟨#[]⟩, .slice none 0 0, .slice none 0 0]
def exC (g : Nat) : Array Value := #[.string ⟨#[]⟩, .int .i64 0, .int .i64 0, .bool false, .slice (some ⟨g, 0, none⟩) 2 2, .slice (some ⟨g + 1 + 1, 0, none⟩) 1 1, .slice none 0 0]
theorem cellE {w : World} {b i : Nat} {c : Array Value} {T : TypeId} (h : w.heap[b]? = some (.cells c T (0, 0))) : w.cell? ⟨b, i, none⟩ = c[i]? := cell_of_row w b i c T (0, 0) h
theorem ex_row {W : World} {g : Nat} {T1 T2 T3 T4 : TypeId} (h1 : W.heap[g]? = some (.cells exI T1 (0, 0))) (h2 : W.heap[g + 1]? = some (.cells #[.int .u32 5] T2 (0, 0))) (h3 : W.heap[g + 1 + 1]? = some (.cells (exD g) T3 (0, 0))) (h4 : W.heap[g + 1 + 1 + 1]? = some (.cells (exC g) T4 (0, 0))) :
    RowD W (PCell W) (.slice (some ⟨g + 1 + 1 + 1, 0, none⟩) 1 1) [exP] := by
  refine ⟨_, 1, rfl, by decide, by decide, .inr ⟨_, 0, rfl, fun i hi => ?_⟩⟩
  have hi0 : i = 0 := by simp at hi; omega
  subst hi0
  refine ⟨(exC g).toList, rfl, fun j _ => ?_, ?_⟩
  · have e : 0 + 0 * 7 + j = j := by omega
    rw [e, cellE h4, Array.getElem?_toList]
  · show PCell W exP _
    refine ⟨some ⟨g, 0, none⟩, 2, some ⟨g + 1 + 1, 0, none⟩, 1, none, 0, rfl, ?_, ?_, ⟨by decide, by decide, .inl rfl⟩⟩
    · refine ⟨by decide, by decide, .inr ⟨g, 0, rfl, fun j hj => ?_⟩⟩
      have hj' : j < 2 := hj
      have hj2 : j = 0 ∨ j = 1 := by omega
      rcases hj2 with rfl | rfl
      · exact ⟨cellE h1, cellE h1, cellE h1⟩
      · exact ⟨cellE h1, cellE h1, cellE h1⟩
    · refine ⟨_, 1, rfl, by decide, by decide, .inr ⟨_, 0, rfl, fun i hi => ?_⟩⟩
      have hi' : i < 1 := hi
      have hi0 : i = 0 := by omega
      subst hi0
      refine ⟨(exD g).toList, rfl, fun j _ => ?_, ?_⟩
      · have e : 0 + 0 * 7 + j = j := by omega
        rw [e, cellE h3, Array.getElem?_toList]
      · refine ⟨_, _, _, rfl, by decide, ⟨_, 1, rfl, by decide, by decide, fun e => (by cases e), .inr ⟨g + 1, 0, rfl, fun j hj => ?_⟩⟩, fun j hj => ?_, RowD.nil' _ _, RowD.nil' _ _⟩
        · have hj' : j < 1 := hj
          have hj0 : j = 0 := by omega
          subst hj0
          exact cellE h2
        · have hj' : j < 1 := hj
          have hj0 : j = 0 := by omega
          subst hj0
          decide
theorem ex_may : mayW [exP] = true := by decide
theorem ex_by : pgB [exP] = [84, 65, 78, 68, 1, 0, 0, 0, 0, 2, 1, 0, 0, 13, 0, 0, 1, 1, 0, 1, 5, 0] := by decide
theorem ex_str : strL (pgB [exP]) = ⟨#[84, 65, 78, 68, 1, 0, 0, 0, 0, 2, 1, 0, 0, 13, 0, 0, 1, 1, 0, 1, 5, 0]⟩ := by rw [ex_by]; rfl

theorem ex_write (w : World) : Calls Try.prog 8 #[.slice (some ⟨w.heap.size + 1 + 1 + 1, 0, none⟩) 1 1] ((((w.alloc (.cells exI 50)).alloc (.cells #[.int .u32 5] 65)).alloc (.cells (exD w.heap.size) 64)).alloc (.cells (exC w.heap.size) 48)) fun e w' => ∃ v, e = .returned (.tuple #[v, .int .i64 0]) ∧ (convert 23 9 v).run Try.prog w' = .ok (.string ⟨#[84, 65, 78, 68, 1, 0, 0, 0, 0, 2, 1, 0, 0, 13, 0, 0, 1, 1, 0, 1, 5, 0]⟩) w' ∧ Fr (fun _ => False) w w' := by
  have h1 := heap_alloc_new w (.cells exI 50)
  have h2 := heap_alloc_new (w.alloc (.cells exI 50)) (.cells #[.int .u32 5] 65)
  have h3 := heap_alloc_new ((w.alloc (.cells exI 50)).alloc (.cells #[.int .u32 5] 65)) (.cells (exD w.heap.size) 64)
  have h4 := heap_alloc_new (((w.alloc (.cells exI 50)).alloc (.cells #[.int .u32 5] 65)).alloc (.cells (exD w.heap.size) 64)) (.cells (exC w.heap.size) 48)
  have z1 : (w.alloc (.cells exI 50)).heap.size = w.heap.size + 1 := by simp
  have z2 : ((w.alloc (.cells exI 50)).alloc (.cells #[.int .u32 5] 65)).heap.size = w.heap.size + 1 + 1 := by simp
  have z3 : (((w.alloc (.cells exI 50)).alloc (.cells #[.int .u32 5] 65)).alloc (.cells (exD w.heap.size) 64)).heap.size = w.heap.size + 1 + 1 + 1 := by simp
  rw [z1] at h2
  rw [z2] at h3
  rw [z3] at h4
  replace h3 := (heap_alloc_old _ (.cells (exC w.heap.size) 48) (r := w.heap.size + 1 + 1) (by rw [z3]; omega)).trans h3
  replace h2 := (heap_alloc_old _ (.cells (exC w.heap.size) 48) (r := w.heap.size + 1) (by rw [z3]; omega)).trans ((heap_alloc_old _ (.cells (exD w.heap.size) 64) (r := w.heap.size + 1) (by rw [z2]; omega)).trans h2)
  replace h1 := (heap_alloc_old _ (.cells (exC w.heap.size) 48) (r := w.heap.size) (by rw [z3]; omega)).trans ((heap_alloc_old _ (.cells (exD w.heap.size) 64) (r := w.heap.size) (by rw [z2]; omega)).trans ((heap_alloc_old _ (.cells #[.int .u32 5] 65) (r := w.heap.size) (by rw [z1]; omega)).trans h1))
  have F : Fr (fun _ => False) w ((((w.alloc (.cells exI 50)).alloc (.cells #[.int .u32 5] 65)).alloc (.cells (exD w.heap.size) 64)).alloc (.cells (exC w.heap.size) 48)) := ((((Fr.refl _ _).alloc _).alloc _).alloc _).alloc _
  have hr := ex_row h1 h2 h3 h4
  generalize ((((w.alloc (.cells exI 50)).alloc (.cells #[.int .u32 5] 65)).alloc (.cells (exD w.heap.size) 64)).alloc (.cells (exC w.heap.size) 48)) = W at hr F ⊢
  refine (write_any W [exP] _ hr (by rw [ex_by]; decide)).mono ?_
  rintro e w' ⟨v, rfl, hb, F'⟩
  rw [ex_may] at hb
  have hc := hb.conv
  rw [if_pos rfl, ex_str] at hc
  exact ⟨v, by rw [ex_may]; rfl, hc, Fr.trans (S := fun _ => False) F F' (fun _ _ e => e)⟩

set_option maxRecDepth 20000 in
theorem awake_any (w : World) : Calls Try.prog 12 #[] w fun e w' => e = .returned (.bool true) ∧ Fr (fun _ => False) w w' := by
  have K := ex_write w
  unfold exI exD exC at K
  have H := hide K
  clear K
  go_enter Try.func12, Try.ntmps12
  go_wp2_with (go_at_call 8; refine H.out.mono ?_; rintro e w1 ⟨v, rfl, hc, F1⟩; have HF := hide F1; clear F1)
  go_ret
  exact ⟨rfl, HF.out⟩

end Go.Proofs.Ytilcigjhogcjkaa
