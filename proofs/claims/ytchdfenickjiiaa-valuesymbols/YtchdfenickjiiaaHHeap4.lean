/-
  What is proved here: a heap's raw fields are set; its words are told; a half is made empty; a new heap; an object is laid.
-/
import Derived.Test.YtchdfenickjiiaaHHeap3
import Derived.Laws.AppendOwnNone
namespace Go.Proofs.Ytchdfenickjiiaa
open Go Go.RowKit

set_option maxRecDepth 20000 in
theorem setRaw_no (w : World) (hb : Nat) (X : Nat → Prop) (sz : Nat) (tm : Int) (n : Nat) (f : Nat → Nat) (st : Nat → Bool) (x : Nat) (j : Int) (y : Nat) (h : HeapAt w hb X sz tm n f st) (hx : x < 18446744073709551616) (hj : j < 0 ∨ (hRaw (headOf f st x) : Int) ≤ j) :
    Calls Try.prog 52 #[.pointer (some ⟨hb, 0, none⟩), .int .u64 (x : Int), .int .i64 j, .int .u64 (y : Int)] w fun e w' => e = .returned (.bool false) ∧ ∃ q, w' = w.drewN q := by
  obtain ⟨i, v, u, v', u', m, s, n', f', m', s', h⟩ := h
  have K := now_any w hb i v u v' u' sz tm h.i1 h.a.blk
  have hp := h.ptr x
  cases hc : isPtr st x with
  | true =>
    rw [hc] at hp
    obtain ⟨hlt, hfb⟩ := h.ptrlt hc
    rw [headOf_yes hc] at hj
    go_enter Try.func52, Try.ntmps52
    go_wp2_with (first | (go_at_call 60; refine K.mono ?_; rintro e w' ⟨rfl, q, rfl⟩) | (go_at_call 91; refine (rfield_out 134 _ _ _ _ v u n f m s _ (x / 4) _ (h.a.drewN _) (by have := h.ml; omega) h.sb hx hp rfl hlt hfb hj).mono ?_; rintro e w' ⟨rfl, q2, rfl⟩))
    go_ret
    exact ⟨rfl, _, rfl⟩
  | false =>
    rw [hc] at hp
    go_enter Try.func52, Try.ntmps52
    go_wp2_with (first | (go_at_call 60; refine K.mono ?_; rintro e w' ⟨rfl, q, rfl⟩) | (go_at_call 91; refine (rfield_none 134 _ _ _ _ v u n f m s _ _ (h.a.drewN _) (by have := h.ml; omega) h.sb hx hp).mono ?_; rintro e w' ⟨rfl, q2, rfl⟩))
    go_ret
    exact ⟨rfl, _, rfl⟩

set_option maxRecDepth 20000 in
theorem setRaw_yes (w : World) (hb : Nat) (X : Nat → Prop) (sz : Nat) (tm : Int) (n : Nat) (f : Nat → Nat) (st : Nat → Bool) (x j y : Nat) (h : HeapAt w hb X sz tm n f st) (hx : x < 18446744073709551616) (hy : y < 18446744073709551616) (hc : isPtr st x = true) (hj : j < hRaw (f (x / 4))) :
    Calls Try.prog 52 #[.pointer (some ⟨hb, 0, none⟩), .int .u64 (x : Int), .int .i64 (j : Int), .int .u64 (y : Int)] w fun e w' => e = .returned (.bool true) ∧ HeapAt w' hb X sz tm n (upd f (x / 4 + 1 + hTag (f (x / 4)) + j) y) st ∧ Fr X w w' := by
  obtain ⟨i, v, u, v', u', m, s, n', f', m', s', h⟩ := h
  have K := now_any w hb i v u v' u' sz tm h.i1 h.a.blk
  have hp := h.ptr x
  rw [hc] at hp
  obtain ⟨hlt, hfb⟩ := h.ptrlt hc
  have hin := (h.good.inn _ (isPtr_st hc).1).2
  have hz := h.z
  have hnz := h.nz
  have hL : hLen (f (x / 4)) = 1 + hTag (f (x / 4)) + hRaw (f (x / 4)) := rfl
  have hin2 : x / 4 + 1 + hTag (f (x / 4)) + j < n := by omega
  obtain ⟨g, cap, rfl, hc1, hc2, hcl⟩ := h.a.ov.rd hin2
  have hst := h.good.field (i := hTag (f (x / 4)) + j) (isPtr_st hc).1 (by omega)
  rw [← Nat.add_assoc] at hst
  have hcl2 := (h.put (y := y) hin2 hst hy).1
  have hfz2 := (h.put (y := y) hin2 hst hy).2.1
  have PUT := hide (fun (q : Nat) => ((h.fr (S := fun _ => False) ((Fr.refl _ _).drewN q) (fun _ _ e => e)).put (y := y) hin2 hst hy).2.2)
  go_enter Try.func52, Try.ntmps52
  go_wp2_with (first | (go_at_call 60; refine K.mono ?_; rintro e w' ⟨rfl, q, rfl⟩) | (go_at_call 91; refine (rfield_in 134 _ _ _ _ g cap u n f m s _ (x / 4) j (h.a.drewN _) (by have := h.ml; omega) h.sb hx hp rfl hlt hfb hj hin2 (by omega) hc1 hc2).mono ?_; rintro e w' ⟨rfl, q2, rfl⟩))
  go_ret
  refine ⟨rfl, ⟨i, _, u, v', u', m, s, n', f', m', s', (PUT.out _).1⟩, ?_⟩
  exact Fr.trans ((Fr.refl X w).drewN _) (PUT.out _).2 (fun _ _ e => e)

set_option maxRecDepth 20000 in
set_option maxHeartbeats 1000000 in
theorem clone_any (w : World) (v : Value) (n : Nat) (f : Nat → Nat) (hv : Own .u64 22 w 0 v n f) (hn : n ≤ 1048576) (hn0 : 0 < n) :
    Calls Try.prog 57 #[v] w fun e w' => ∃ v', e = .returned v' ∧ Own .u64 22 w' w.heap.size v' n f ∧ Fr (fun _ => False) w w' := by
  obtain ⟨i, hi, hz0, hz1, hz2⟩ := info_parts infoW
  obtain ⟨g, cap, rfl, hc1, hc2, hcl⟩ := hv.rd hn0
  have hd : ∀ i, i < n → w.cell? ⟨g, 0 + i, none⟩ = some (.int .u64 (f i)) := fun i hi => by
    obtain ⟨g', cap', e, _, _, hcl⟩ := hv.rd hi
    cases e
    rw [Nat.zero_add]
    exact hcl
  have HD := hide hd
  clear hd
  have hq : ∀ w : World, (binOp .eql 35 (.slice (some ⟨g, 0, none⟩) n cap) (.slice none 0 0)).run Try.prog w = .ok (.bool false) w := fun w => Lib.run_eql_slice_nil w _ _ _ _ _ _ _ Try.underlying35
  have hown0 : Own .u64 22 (w.alloc (.cells #[] 22)) w.heap.size (.slice (some ⟨w.heap.size, 0, none⟩) 0 0) 0 f :=
    .inr ⟨w.heap.size, 0, rfl, Nat.le_refl _, by decide, #[], heap_alloc_new w _, rfl, Nat.le_refl _, fun i hi => by omega⟩
  have hown := hown0.row
  have hd2 : ∀ i, i < n → (w.alloc (.cells #[] 22)).cell? ⟨g, 0 + i, none⟩ = some (.int .u64 (f i)) := fun i hi =>
    (((Fr.refl (fun _ => False) w).alloc _).cell (World.block_lt_of_cell? w _ hcl) (fun e => e)).trans (HD.out i hi)
  have HD2 := hide hd2
  clear hd2 hown0
  go_enter Try.func57, Try.ntmps57
  go_wp2_with (at_builtin; refine wpList_append_lies _ rfl _ _ 35 rfl w.heap.size 22 i (.int .u64 0) 1 8 Try.underlying35 hi hz0 hz1 hz2 rfl (by decide) (.slice (some ⟨w.heap.size, 0, none⟩) 0 0) 0 _ rfl hown ⟨g, 0, none⟩ n cap (cellsOf .u64 f n) rfl (by rw [cellsOf_length]; omega) (hcells_at HD2.out) (cellsOf_one _ _ _) hn0 (by unfold maxLen; omega) (by omega) (by simp) (w.heap.size + 1) (by simp) ?_; intro g3 cap3 w3 hown3 hgrow3 hat3 hlt3; have O3 := hide (Own.cat hown3); have G3 := hide hgrow3; clear hown3 hgrow3 hat3 hlt3)
  go_ret
  refine ⟨_, rfl, ?_, ((Fr.refl _ _).alloc _).grow G3.out fun k hk e => ?_⟩
  · have := O3.out.congr (f' := f) (fun i hi => by simp)
    rwa [Nat.zero_add] at this
  · have e2 : w.heap.size = k := by simpa [Value.ownBlock] using e
    omega

set_option maxRecDepth 20000 in
theorem words_any (w : World) (hb : Nat) (X : Nat → Prop) (sz : Nat) (tm : Int) (n : Nat) (f : Nat → Nat) (st : Nat → Bool) (h : HeapAt w hb X sz tm n f st) :
    Calls Try.prog 30 #[.pointer (some ⟨hb, 0, none⟩)] w fun e w' => ∃ v', e = .returned v' ∧ Own .u64 22 w' w.heap.size v' n f ∧ Fr (fun _ => False) w w' := by
  obtain ⟨i, v, u, v', u', m, s, n', f', m', s', h⟩ := h
  have hcv := h.a.cellv
  have hz := h.z
  have hnz := h.nz
  have hp := h.good.pos
  have K := now_any w hb i _ u v' u' sz tm h.i1 h.a.blk
  have KC := fun q => clone_any (w.drewN q) v n f (h.a.drewN q).ov (by omega) (by omega)
  go_enter Try.func30, Try.ntmps30
  go_wp2_with (first | (go_at_call 60; refine K.mono ?_; rintro e w' ⟨rfl, q, rfl⟩) | (go_at_call 57; refine (KC _).mono ?_; rintro e w3 ⟨v3, rfl, O3, F3⟩))
  go_ret
  exact ⟨_, rfl, O3, Fr.trans ((Fr.refl _ w).drewN _) F3 (fun _ _ e => e)⟩

end Go.Proofs.Ytchdfenickjiiaa
