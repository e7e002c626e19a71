/-
  What is proved here: Enter, Call, At (the document's table, tandemref14).
-/
import Derived.Test.YtcefeclgehijpaaFRefF
namespace Go.Proofs.Ytcefeclgehijpaa
open Go Go.RowKit

theorem fin_mem (p c : Int) : ∀ (M : List PM), ∀ y ∈ fin p c M, y ∈ M ∨ y = ⟨p, c, 0, -1, 0⟩
  | [], y, hy => by
    simp [fin] at hy
    exact .inr hy
  | z :: M, y, hy => by
    unfold fin at hy
    split at hy
    · exact .inl hy
    · rcases List.mem_cons.1 hy with rfl | hy
      · exact .inl (by simp)
      · rcases fin_mem p c M y hy with h | h
        · exact .inl (by simp [h])
        · exact .inr h
theorem RT.gu {w : World} {base b : Nat} {M : List PM} {v : Value} {g n cap : Nat} (h : RT w base b M (.slice (some ⟨g, 0, none⟩) n cap) v) : base ≤ g ∧ g < w.heap.size := h.fs.lt g rfl
theorem RT.setN {w : World} {base b i g cap : Nat} {M : List PM} {x : PM} {u : Value} (h : RT w base b M u (.slice (some ⟨g, 0, none⟩) M.length cap)) (hx : M[i]? = some x) (n : Int) :
    RT (w.setCell ⟨g, i, none⟩ (.int .i64 n)) base b (M.set i ⟨x.p, x.c, x.m, x.k, n⟩) u (.slice (some ⟨g, 0, none⟩) M.length cap) ∧ Fr (RS base w) w (w.setCell ⟨g, i, none⟩ (.int .i64 n)) := by
  have hF : Fr (RS base w) w w := Fr.refl _ _
  have hgb : ∃ cur, w.heap[g]? = some (.cells cur 3 (0, 0)) := by
    obtain ⟨-, ⟨e, -⟩ | ⟨g2, cap2, cur, e, -, hb, -⟩⟩ := h.cs
    · cases e
    · cases e
      exact ⟨cur, hb⟩
  obtain ⟨cur, hgb⟩ := hgb
  have hne : g ≠ b := by
    rintro rfl
    rw [h.tb] at hgb
    simp at hgb
  have hl : (M.set i ⟨x.p, x.c, x.m, x.k, n⟩).length = M.length := by simp
  refine ⟨⟨h.bb, ?_, ?_, ?_⟩, hF.setCell (fun _ => h.rsv rfl) _ _⟩
  · exact (heap_setCell_other w ⟨g, i, none⟩ b _ (Ne.symm hne)).trans h.tb
  · rw [hl, rowM_setN hx]
    exact set_keep h.fs (row_ne h.fs hgb (by decide)) _
  · rw [hl]
    have := (h.cs.stored i (.int .i64 n)).1
    have e : rowC (M.set i ⟨x.p, x.c, x.m, x.k, n⟩) = (rowC M).set i (.int .i64 n) := by simp [rowC, List.map_set]
    rw [e]
    exact this
theorem RT.fzv {w : World} {base b g cap : Nat} {M : List PM} {u : Value} (h : RT w base b M u (.slice (some ⟨g, 0, none⟩) M.length cap)) (i : Nat) : w.frozen? ⟨g, i, none⟩ = false := h.cs.frozenAt i
theorem RT.fzu {w : World} {base b g cap : Nat} {M : List PM} {v : Value} (h : RT w base b M (.slice (some ⟨g, 0, none⟩) M.length cap) v) (i : Nat) : w.frozen? ⟨g, i, none⟩ = false := h.fs.frozenAt i

set_option maxRecDepth 20000 in
set_option maxHeartbeats 4000000 in
theorem renter_any (w : World) (base b : Nat) (M : List PM) (u v : Value) (h : RT w base b M u v) (p c : Int) (hM : (M.length + 1) * 32 ≤ 140737488355328) (hn : ∀ x ∈ M, 0 ≤ x.n ∧ x.n < 9223372036854775807) :
    Calls Try.prog 13 #[.pointer (some ⟨b, 0, none⟩), .int .i64 p, .int .i64 c] w fun e w' => e = .returned (.int .i64 (times p c M + 1)) ∧ RA w w' base b (entS p c M) := by
  have K1 := hide (find_any w base b M u v h p c hM)
  obtain ⟨x, hx, -⟩ := fin_get p c M
  obtain ⟨e1, e2⟩ := ent_fin p c M hx
  have E1 := hide e1
  have E2 := hide e2
  have hxn : 0 ≤ x.n ∧ x.n < 9223372036854775807 := by
    rcases fin_mem p c M x (List.mem_of_getElem? hx) with q | q
    · exact hn x q
    · subst q
      exact ⟨Int.le_refl _, by dsimp only; omega⟩
  have hix := ix_lt p c M
  have HX := hide hx
  clear h hn e1 e2 hx
  go_enter Try.func13, Try.ntmps13
  go_upto_region 2 with (go_at_call 25; refine K1.out.mono ?_; rintro e3 w3 ⟨rfl, u3, v3, R3, F3⟩; have HR3 := hide R3; have HF3 := hide F3; clear R3 F3)
  obtain ⟨g, cap, g', cap', rfl, rfl, -, -, -, -, q4, hml⟩ := HR3.out.at HX.out
  have c1 := HR3.out.c1
  have z4 := HR3.out.fzv (ixS p c M)
  have hS := HR3.out.setN HX.out (x.n + 1)
  have HS := hide hS.1
  have HFS := hide (HF3.out.rs hS.2)
  obtain ⟨g2, cap2, g2', cap2', ea, eb, -, -, -, -, q5, -⟩ := HS.out.at (i := ixS p c M) (x := ⟨x.p, x.c, x.m, x.k, x.n + 1⟩) (by simp [hix])
  simp at eb
  obtain ⟨rfl, -⟩ := eb
  have c2 := HS.out.c1
  clear hS ea
  go_wp2_with fail
  go_ret
  rw [E1.out, E2.out]
  exact ⟨rfl, _, _, HS.out, HFS.out⟩

end Go.Proofs.Ytcefeclgehijpaa
