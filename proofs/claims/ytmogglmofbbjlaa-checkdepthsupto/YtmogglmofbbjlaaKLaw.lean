/-
  What is proved here: check.Program and check.Depths of one proto of known code; tandemlaw11.awake.
-/
import Derived.Test.YtmogglmofbbjlaaKProg
import Derived.Test.YtmogglmofbbjlaaKEval
namespace Go.Proofs.Ytmogglmofbbjlaa
open Go Go.RowKit

def cellsL (l : List (Int × Int × Int)) : List Value := l.flatMap fun x => [.int .i64 x.1, .int .i64 x.2.1, .int .i64 x.2.2]
theorem cellsL_get : ∀ (l : List (Int × Int × Int)) (j : Nat), j < l.length → (cellsL l)[j * 3]? = some (.int .i64 (l.getD j (0, 0, 0)).1) ∧ (cellsL l)[j * 3 + 1]? = some (.int .i64 (l.getD j (0, 0, 0)).2.1) ∧ (cellsL l)[j * 3 + 2]? = some (.int .i64 (l.getD j (0, 0, 0)).2.2)
  | [], j, h => by simp at h
  | x :: l, 0, _ => by simp [cellsL]
  | x :: l, j + 1, h => by
    have := cellsL_get l j (by simpa using h)
    have e : cellsL (x :: l) = .int .i64 x.1 :: .int .i64 x.2.1 :: .int .i64 x.2.2 :: cellsL l := rfl
    rw [e, show (j + 1) * 3 = j * 3 + 1 + 1 + 1 by omega, show j * 3 + 1 + 1 + 1 + 1 = (j * 3 + 1) + 1 + 1 + 1 by omega, show j * 3 + 1 + 1 + 1 + 2 = (j * 3 + 2) + 1 + 1 + 1 by omega]
    simpa using this
theorem cellsL_len (l : List (Int × Int × Int)) : (cellsL l).length = l.length * 3 := by
  induction l with
  | nil => rfl
  | cons x l ih => simp [cellsL] at ih ⊢; omega
theorem cellsL_snoc (l : List (Int × Int × Int)) (x : Int × Int × Int) : cellsL l ++ [.int .i64 x.1, .int .i64 x.2.1, .int .i64 x.2.2] = cellsL (l ++ [x]) := by simp [cellsL]

/-- Code, in memory. -/
def CodeIn (w : World) (v : Value) (l : List (Int × Int × Int)) : Prop :=
  ∃ co cc, v = .slice co l.length cc ∧ l.length ≤ cc ∧ cc ≤ 9223372036854775807 ∧ CodeAt w co (mkPR 0 l)
theorem CodeIn.of {w : World} {B : Nat} {v : Value} {l : List (Int × Int × Int)} (h : w.ownsRow B 47 3 v l.length (cellsL l)) : CodeIn w v l := by
  obtain ⟨-, h⟩ := h
  rcases h with ⟨rfl, e⟩ | ⟨g, cap, cur, rfl, -, h2, h3, h4, h5, h6⟩
  · refine ⟨none, 0, by rw [e], by omega, by omega, .inl e⟩
  · refine ⟨some ⟨g, 0, none⟩, cap, rfl, h3, h4, .inr ⟨g, 0, rfl, fun j hj => ?_⟩⟩
    have hj' : j < l.length := hj
    obtain ⟨c0, c1, c2⟩ := cellsL_get l j hj'
    have hx : ∀ r u, r < 3 → (cellsL l)[j * 3 + r]? = some u → w.cell? ⟨g, 0 + j * 3 + r, none⟩ = some u := fun r u hr hu => by
      rw [← h6, List.getElem?_take, if_pos (by omega)] at hu
      rw [Nat.zero_add]
      exact cell_row h2 (by simpa using hu)
    exact ⟨hx 0 _ (by omega) c0, hx 1 _ (by omega) c1, hx 2 _ (by omega) c2⟩
theorem CodeIn.new {w w' : World} {v : Value} {l : List (Int × Int × Int)} (h : CodeIn w v l) (hf : Fr (fun _ => False) w w') : CodeIn w' v l := by
  obtain ⟨co, cc, e, h1, h2, h3⟩ := h
  exact ⟨co, cc, e, h1, h2, h3.fr hf (fun _ _ _ _ e => e)⟩

/-- The cells of a proto that takes nothing. -/
def prC (v : Value) (ka : Option Addr) (nc kc : Nat) : Array Value := #[.string ⟨#[]⟩, .int .i64 0, .int .i64 0, .bool false, v, .slice ka nc kc, .slice none 0 0]
/-- All numbers are small. -/
def Small (l : List (Int × Int × Int)) : Prop := ∀ x, x ∈ l → 0 ≤ x.1 ∧ x.1 ≤ 1000 ∧ 0 ≤ x.2.1 ∧ x.2.1 ≤ 1000 ∧ 0 ≤ x.2.2 ∧ x.2.2 ≤ 1000
theorem protos_one {w : World} {g nc kc : Nat} {v : Value} {ka : Option Addr} {T : TypeId} {l : List (Int × Int × Int)} (hb : w.heap[g]? = some (.cells (prC v ka nc kc) T (0, 0))) (hc : CodeIn w v l) (hl : Small l) (hn : nc ≤ 1000) : ∃ Q, ProtosAt w (some ⟨g, 0, none⟩) 1 (fun _ => mkPR nc l) Q := by
  obtain ⟨co, cc, rfl, h1, h2, h3⟩ := hc
  have hs : ∀ j, j < l.length → l.getD j (0, 0, 0) ∈ l := fun j hj => by
    rw [List.getD_eq_getElem?_getD, List.getElem?_eq_getElem hj]
    exact List.getElem_mem hj
  refine ⟨fun _ => ⟨⟨#[]⟩, co, cc, ka, kc, none, 0⟩, .inr ⟨g, 0, rfl, fun i hi => ?_⟩⟩
  have e : 0 + i * 7 = 0 := by omega
  rw [e]
  exact ⟨⟨cell_row hb rfl, cell_row hb rfl, cell_row hb rfl, cell_row hb rfl, cell_row hb rfl, cell_row hb rfl, cell_row hb rfl⟩, h3, ⟨by show (-9223372036854775808 : Int) ≤ 0; omega, by show (0 : Int) ≤ 9223372036854775807; omega, by show (-9223372036854775808 : Int) ≤ 0; omega, by show (0 : Int) ≤ 9223372036854775807; omega, h1, h2, by show nc ≤ 9223372036854775807; omega, by show (0 : Nat) ≤ 9223372036854775807; omega,
    fun j hj => by have := hl _ (hs j hj); exact ⟨by show (-9223372036854775808 : Int) ≤ (l.getD j (0, 0, 0)).1; omega, by show (l.getD j (0, 0, 0)).1 ≤ (9223372036854775807 : Int); omega⟩,
    fun j hj => by have := hl _ (hs j hj); exact ⟨by show (-9223372036854775808 : Int) ≤ (l.getD j (0, 0, 0)).2.1; omega, by show (l.getD j (0, 0, 0)).2.1 ≤ (9223372036854775807 : Int); omega⟩,
    fun j hj => by have := hl _ (hs j hj); exact ⟨by show (-9223372036854775808 : Int) ≤ (l.getD j (0, 0, 0)).2.2; omega, by show (l.getD j (0, 0, 0)).2.2 ≤ (9223372036854775807 : Int); omega⟩⟩⟩
theorem prog_one (w : World) (g nc kc : Nat) (v : Value) (ka : Option Addr) (T : TypeId) (l : List (Int × Int × Int)) (R : Nat × Nat × Nat) (hb : w.heap[g]? = some (.cells (prC v ka nc kc) T (0, 0))) (hc : CodeIn w v l) (hl : Small l) (hn : nc ≤ 1000) (hR : programM 1 (fun _ => mkPR nc l) = R) :
    Calls Try.prog 7 #[.slice (some ⟨g, 0, none⟩) 1 1] w fun e w' => e = .returned (.tuple #[.int .i64 (R.1 : Int), .int .i64 (R.2.1 : Int), .int .i64 (R.2.2 : Int)]) ∧ Fr (fun _ => False) w w' := by
  obtain ⟨Q, hQ⟩ := protos_one hb hc hl hn
  exact program_any w _ 1 1 _ Q hQ (by omega) (by omega) R hR.symm

theorem row_new (w : World) (c : Array Value) (l : List (Int × Int × Int)) (hc : c.toList = cellsL l) : CodeIn (w.alloc (.cells c 47)) (.slice (some ⟨w.heap.size, 0, none⟩) l.length l.length) l ∨ 9223372036854775807 < l.length := by
  by_cases h : 9223372036854775807 < l.length
  · exact .inr h
  · refine .inl (CodeIn.of (B := 0) ⟨cellsL_len l, .inr ⟨w.heap.size, l.length, c, rfl, Nat.zero_le _, heap_alloc_new w _, Nat.le_refl _, by unfold maxLen; omega, ?_, ?_⟩⟩)
    · rw [← Array.length_toList, hc, cellsL_len]
    · rw [hc, ← cellsL_len, List.take_length]

set_option maxHeartbeats 2000000 in
set_option maxRecDepth 20000 in
theorem awake_any (w : World) : Calls Try.prog 10 #[] w fun e w' => e = .returned (.bool true) ∧ Fr (fun _ => False) w w' := by
  have K1 := fun (W : World) => show Calls Try.prog 7 #[.slice (some ⟨W.heap.size + 1, 0, none⟩) 1 1] ((W.alloc (.cells #[.int .i64 13, .int .i64 0, .int .i64 0] 47)).alloc (.cells #[.string ⟨#[]⟩, .int .i64 0, .int .i64 0, .bool false, .slice (some ⟨W.heap.size, 0, none⟩) 1 1, .slice none 0 0, .slice none 0 0] 45)) fun e w' => e = .returned (.tuple #[.int .i64 0, .int .i64 0, .int .i64 31]) ∧ Fr (fun _ => False) W w' by
    have e : (W.alloc (.cells #[.int .i64 13, .int .i64 0, .int .i64 0] 47)).heap.size = W.heap.size + 1 := by simp
    have hb := heap_alloc_new (W.alloc (.cells #[.int .i64 13, .int .i64 0, .int .i64 0] 47)) (.cells #[.string ⟨#[]⟩, .int .i64 0, .int .i64 0, .bool false, .slice (some ⟨W.heap.size, 0, none⟩) 1 1, .slice none 0 0, .slice none 0 0] 45)
    rw [e] at hb
    rcases row_new W #[.int .i64 13, .int .i64 0, .int .i64 0] [(13, 0, 0)] rfl with hc | hc
    · refine (prog_one _ (W.heap.size + 1) 0 0 _ none 45 [(13, 0, 0)] (0, 0, 31) hb (hc.new ((Fr.refl _ _).alloc _)) (fun x hx => by simp at hx; subst hx; decide) (by omega) program_a1).mono ?_
      rintro e w' ⟨rfl, F⟩
      exact ⟨rfl, Fr.trans (S := fun _ => False) (((Fr.refl _ _).alloc _).alloc _) F (fun _ _ e => e)⟩
    · exact absurd hc (by decide)
  have K2 := fun (W : World) => show Calls Try.prog 7 #[.slice (some ⟨W.heap.size + 1 + 1, 0, none⟩) 1 1] (((W.alloc (.cells #[.int .i64 1, .int .i64 0, .int .i64 0, .int .i64 13, .int .i64 0, .int .i64 0] 47)).alloc (.cells #[.int .i64 8, .int .i64 0, .bool false, .slice none 0 0, .string ⟨#[]⟩, .slice none 0 0, .slice none 0 0] 41)).alloc (.cells #[.string ⟨#[]⟩, .int .i64 0, .int .i64 0, .bool false, .slice (some ⟨W.heap.size, 0, none⟩) 2 2, .slice (some ⟨W.heap.size + 1, 0, none⟩) 1 1, .slice none 0 0] 45)) fun e w' => e = .returned (.tuple #[.int .i64 0, .int .i64 0, .int .i64 0]) ∧ Fr (fun _ => False) W w' by
    have e : ((W.alloc (.cells #[.int .i64 1, .int .i64 0, .int .i64 0, .int .i64 13, .int .i64 0, .int .i64 0] 47)).alloc (.cells #[.int .i64 8, .int .i64 0, .bool false, .slice none 0 0, .string ⟨#[]⟩, .slice none 0 0, .slice none 0 0] 41)).heap.size = W.heap.size + 1 + 1 := by simp
    have hb := heap_alloc_new ((W.alloc (.cells #[.int .i64 1, .int .i64 0, .int .i64 0, .int .i64 13, .int .i64 0, .int .i64 0] 47)).alloc (.cells #[.int .i64 8, .int .i64 0, .bool false, .slice none 0 0, .string ⟨#[]⟩, .slice none 0 0, .slice none 0 0] 41)) (.cells #[.string ⟨#[]⟩, .int .i64 0, .int .i64 0, .bool false, .slice (some ⟨W.heap.size, 0, none⟩) 2 2, .slice (some ⟨W.heap.size + 1, 0, none⟩) 1 1, .slice none 0 0] 45)
    rw [e] at hb
    rcases row_new W #[.int .i64 1, .int .i64 0, .int .i64 0, .int .i64 13, .int .i64 0, .int .i64 0] [(1, 0, 0), (13, 0, 0)] rfl with hc | hc
    · refine (prog_one _ (W.heap.size + 1 + 1) 1 1 _ (some ⟨W.heap.size + 1, 0, none⟩) 45 [(1, 0, 0), (13, 0, 0)] (0, 0, 0) hb (hc.new (((Fr.refl _ _).alloc _).alloc _)) (fun x hx => by simp at hx; rcases hx with rfl | rfl <;> decide) (by omega) program_a2).mono ?_
      rintro e w' ⟨rfl, F⟩
      exact ⟨rfl, Fr.trans (S := fun _ => False) ((((Fr.refl _ _).alloc _).alloc _).alloc _) F (fun _ _ e => e)⟩
    · exact absurd hc (by decide)
  have H1 := hide K1
  have H2 := hide K2
  clear K1 K2
  go_enter Try.func10, Try.ntmps10
  go_wp2_with (first
    | (have hh := HF1; clear hh; go_at_call 7; refine (H2.out w1).mono ?_; rintro e w2 ⟨rfl, F2⟩)
    | (go_at_call 7; refine (H1.out w).mono ?_; rintro e w1 ⟨rfl, F1⟩; have HF1 := hide F1; clear F1))
  go_ret
  exact ⟨rfl, HF1.out.trans F2 (fun _ _ e => e)⟩

end Go.Proofs.Ytmogglmofbbjlaa
