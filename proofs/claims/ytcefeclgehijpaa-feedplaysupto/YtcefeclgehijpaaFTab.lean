/-
  What is proved here: a table in memory (package feed); what makes a place, and finds it.
-/
import Derived.Test.YtcefeclgehijpaaFLeaf
namespace Go.Proofs.Ytcefeclgehijpaa
open Go Go.RowKit

/-- What is kept of a place. -/
structure PL where
  e : PE
  m : Int
  k : Int
  n : Int
def PL.cells (x : PL) : Array Value := #[.int .i64 x.e.p, .int .i64 x.e.c, .int .i64 x.m, .int .i64 x.k, .int .i64 x.n]

/-- A table: its block, its map's, its places. -/
structure TabAt (w : World) (t r : Nat) (T : List PL) (clock : Nat) : Prop where
  tb : w.heap[t]? = some (.cells #[.map (some r)] 52 (0, 0))
  mp : MapAt w r (T.map PL.e) clock
  pl : ∀ x ∈ T, w.heap[x.e.a]? = some (.cells x.cells 56 (0, 0))
  ad : (T.map fun x => x.e.a).Nodup
  bn : ∀ x ∈ T, x.e.born < clock
  bd : (T.map fun x => x.e.born).Nodup
  ky : (T.map fun x => (x.e.p, x.e.c)).Nodup

/-- The blocks of a table. -/
def tfoot (t r : Nat) (T : List PL) (k : Nat) : Prop := k = t ∨ k = r ∨ ∃ x ∈ T, k = x.e.a

theorem lt_of_block {w : World} {k : Nat} {o : Obj} (h : w.heap[k]? = some o) : k < w.heap.size := (Array.getElem?_eq_some_iff.1 h).1
theorem TabAt.keep {w w' : World} {t r clock : Nat} {T : List PL} (h : TabAt w t r T clock) (hb : ∀ k, tfoot t r T k → k < w.heap.size → w'.heap[k]? = w.heap[k]?) : TabAt w' t r T clock :=
  ⟨(hb t (.inl rfl) (lt_of_block h.tb)).trans h.tb, (hb r (.inr (.inl rfl)) (lt_of_block h.mp)).trans h.mp, fun x hx => (hb _ (.inr (.inr ⟨x, hx, rfl⟩)) (lt_of_block (h.pl x hx))).trans (h.pl x hx), h.ad, h.bn, h.bd, h.ky⟩
theorem TabAt.fr {w w' : World} {t r clock : Nat} {T : List PL} {S : Nat → Prop} (h : TabAt w t r T clock) (F : Fr S w w') (hs : ∀ k, tfoot t r T k → ¬ S k) : TabAt w' t r T clock :=
  h.keep fun k hk hl => F.block k hl (hs k hk)
theorem TabAt.same {w w' : World} {t r clock : Nat} {T : List PL} (h : TabAt w t r T clock) (F : Fr (fun _ => False) w w') : TabAt w' t r T clock := h.fr F fun _ _ e => e
theorem TabAt.lt {w : World} {t r clock : Nat} {T : List PL} (h : TabAt w t r T clock) (k : Nat) (hk : tfoot t r T k) : k < w.heap.size := by
  rcases hk with rfl | rfl | ⟨x, hx, rfl⟩
  · exact lt_of_block h.tb
  · exact lt_of_block h.mp
  · exact lt_of_block (h.pl x hx)
theorem TabAt.cell {w : World} {t r clock : Nat} {T : List PL} (h : TabAt w t r T clock) : w.cell? ⟨t, 0, none⟩ = some (.map (some r)) := by rw [cell_of_row w t 0 _ _ _ h.tb]; rfl

theorem new_any (w : World) : Calls Try.prog 7 #[] w fun e w' => ∃ t r, e = .returned (.pointer (some ⟨t, 0, none⟩)) ∧ TabAt w' t r [] 0 ∧ Fr (fun _ => False) w w' ∧ w.heap.size ≤ t ∧ w.heap.size ≤ r := by
  have hmm := @run_makeMap Try.prog
  go_enter Try.func7, Try.ntmps7
  go_wp2
  go_ret
  refine ⟨_, _, rfl, ⟨?_, ?_, by simp, by simp, by simp, by simp, by simp⟩, ((Fr.refl _ _).alloc _).alloc _, by omega, Nat.le_refl _⟩
  · have := heap_alloc_new (w.alloc (.map #[] 0)) (.cells #[.map (some w.heap.size)] 52)
    rw [World.size_alloc] at this
    exact this
  · exact (heap_alloc_old _ _ (by simp)).trans (heap_alloc_new w _)

theorem place_old (w : World) (t r clock : Nat) (T : List PL) (h : TabAt w t r T clock) (p c : Int) (i : Nat) (e0 : PE) (hf : fnd p c (T.map PL.e) 0 = some (i, e0)) :
    Calls Try.prog 26 #[.pointer (some ⟨t, 0, none⟩), .int .i64 p, .int .i64 c] w fun e w' => e = .returned (.pointer (some ⟨e0.a, 0, none⟩)) ∧ Fr (fun _ => False) w w' := by
  have hA := h.same ((Fr.refl _ w).alloc (.cells #[.int .i64 p, .int .i64 c] 59))
  have l1 : ∀ n, (Instr.lookup 50 (.map (some r)) (.agg #[.int .i64 p, .int .i64 c]) false).run Try.prog ((w.alloc (.cells #[.int .i64 p, .int .i64 c] 59)).drewN n) = .ok (.pointer (some ⟨e0.a, 0, none⟩)) ((w.alloc (.cells #[.int .i64 p, .int .i64 c] 59)).drewN n) := by
    intro n
    have := look_any (w := (w.alloc (.cells #[.int .i64 p, .int .i64 c] 59)).drewN n) hA.mp p c false
    rw [hf] at this
    exact this
  have c1 := hA.cell
  go_enter Try.func26, Try.ntmps26
  go_wp2_with fail
  go_quiet (fail)
  go_wp2
  go_ret
  exact ⟨rfl, ((Fr.refl _ _).alloc _).drewN _⟩

/-- A new entry is laid into the map. -/
def laidM (w : World) (r : Nat) (L : List PE) (clock : Nat) : World := { w with heap := w.heap.setIfInBounds r (.map (L.map PE.en).toArray clock) }
theorem wpList_mapNew (w : World) {ops : Array Oper} {rest : List Oper} {o : Oper} {a : Act} {Q : Exit → Act → World → Prop}
    (hg : o.guard = none) (m x v : Operand) (hop : o.op = Op.mapUpdate 50 m x v) (r clock : Nat) (L : List PE) (p c : Int) (b : Nat)
    (hm : a.eval m = .map (some r)) (hx : a.eval x = .agg #[.int .i64 p, .int .i64 c]) (hv : a.eval v = .pointer (some ⟨b, 0, none⟩)) (hb : MapAt w r L clock) (hf : fnd p c L 0 = none)
    (hK : wpList Try.prog ops Q rest (a.put o.dst undef) (laidM w r (L ++ [PE.mk p c b clock]) (clock + 1))) : wpList Try.prog ops Q (o :: rest) a w := by
  refine wpList_plain hg fun K' hK' => ?_
  have hrun : (Instr.mapUpdate 50 (.map (some r)) (.agg #[.int .i64 p, .int .i64 c]) (.pointer (some ⟨b, 0, none⟩))).run Try.prog w = .ok () (laidM w r (L ++ [PE.mk p c b clock]) (clock + 1)) := update_new hb hf b
  unfold Oper.wp
  simp [execOp, hop, hm, hx, hv, hrun, Result.andThen]
  exact hK' _ _ hK

theorem Fr.laidM {S : Nat → Prop} {a w : World} (h : Fr S a w) {r : Nat} (hr : r < a.heap.size → S r) (L : List PE) (clock : Nat) : Fr S a (laidM w r L clock) :=
  ⟨h.os, h.tape, h.output, by simpa [Ytcefeclgehijpaa.laidM] using h.size, fun k hk hn => by
    have hne : k ≠ r := fun e => hn (by rw [e]; exact hr (by omega))
    show (w.heap.setIfInBounds r _)[k]? = _
    rw [Array.getElem?_setIfInBounds_ne (Ne.symm hne)]
    exact h.block k hk hn⟩

theorem fnd_none {p c : Int} : ∀ {L : List PE} {i : Nat}, fnd p c L i = none → ∀ e ∈ L, ¬ (p = e.p ∧ c = e.c)
  | [], _, _, e, he => by cases he
  | x :: L, i, h, e, he => by
    unfold fnd at h
    split at h
    · cases h
    · rename_i hne
      rcases List.mem_cons.1 he with rfl | he
      · exact hne
      · exact fnd_none h e he
theorem fnd_some {p c : Int} : ∀ {L : List PE} {i j : Nat} {e : PE}, fnd p c L i = some (j, e) → i ≤ j ∧ L[j - i]? = some e ∧ p = e.p ∧ c = e.c
  | [], _, _, _, h => by cases h
  | x :: L, i, j, e, h => by
    unfold fnd at h
    split at h
    · rename_i he
      cases h
      exact ⟨Nat.le_refl _, by simp, he⟩
    · obtain ⟨h1, h2, h3⟩ := fnd_some h
      refine ⟨by omega, ?_, h3⟩
      rw [show j - i = (j - (i + 1)) + 1 by omega]
      exact h2

theorem TabAt.push {w2 : World} {t r clock : Nat} {T : List PL} (h : TabAt w2 t r T clock) {p c : Int} (hf : fnd p c (T.map PL.e) 0 = none) :
    TabAt (laidM (w2.alloc (.cells #[.int .i64 p, .int .i64 c, .int .i64 0, .int .i64 (-1), .int .i64 0] 56)).drew r (T.map PL.e ++ [PE.mk p c w2.heap.size clock]) (clock + 1)) t r (T ++ [⟨⟨p, c, w2.heap.size, clock⟩, 0, -1, 0⟩]) (clock + 1) := by
  have hr : r < w2.heap.size := lt_of_block h.mp
  have hother : ∀ k, k ≠ r → (laidM (w2.alloc (.cells #[.int .i64 p, .int .i64 c, .int .i64 0, .int .i64 (-1), .int .i64 0] 56)).drew r (T.map PL.e ++ [PE.mk p c w2.heap.size clock]) (clock + 1)).heap[k]? = (w2.alloc (.cells #[.int .i64 p, .int .i64 c, .int .i64 0, .int .i64 (-1), .int .i64 0] 56)).heap[k]? := by
    intro k hk
    exact Array.getElem?_setIfInBounds_ne (Ne.symm hk)
  have hcells : ∀ {k : Nat} {cs : Array Value} {ty : TypeId}, w2.heap[k]? = some (.cells cs ty (0, 0)) → k ≠ r := by
    rintro k cs ty hk rfl
    have := h.mp
    unfold MapAt at this
    rw [hk] at this
    cases this
  have hold : ∀ {k : Nat} {o : Obj}, w2.heap[k]? = some o → (w2.alloc (.cells #[.int .i64 p, .int .i64 c, .int .i64 0, .int .i64 (-1), .int .i64 0] 56)).heap[k]? = some o := fun hk => (heap_alloc_old _ _ (lt_of_block hk)).trans hk
  refine ⟨(hother t (hcells h.tb)).trans (hold h.tb), ?_, ?_, ?_, ?_, ?_, ?_⟩
  · show (Array.setIfInBounds _ r _)[r]? = _
    rw [Array.getElem?_setIfInBounds_self_of_lt]
    · simp
    · show r < (w2.alloc _).heap.size
      rw [World.size_alloc]; omega
  · intro x hx
    rcases List.mem_append.1 hx with hx | hx
    · exact (hother _ (hcells (h.pl x hx))).trans (hold (h.pl x hx))
    · rw [List.mem_singleton] at hx
      subst hx
      exact (hother _ (by show w2.heap.size ≠ r; omega)).trans (heap_alloc_new w2 _)
  · rw [List.map_append, List.nodup_append]
    refine ⟨h.ad, by simp, ?_⟩
    intro a ha b hb
    obtain ⟨x, hx, rfl⟩ := List.mem_map.1 ha
    simp at hb
    have := lt_of_block (h.pl x hx)
    omega
  · intro x hx
    rcases List.mem_append.1 hx with hx | hx
    · exact Nat.lt_succ_of_lt (h.bn x hx)
    · rw [List.mem_singleton] at hx
      subst hx
      exact Nat.lt_succ_self _
  · rw [List.map_append, List.nodup_append]
    refine ⟨h.bd, by simp, ?_⟩
    intro a ha b hb
    obtain ⟨x, hx, rfl⟩ := List.mem_map.1 ha
    simp at hb
    have := h.bn x hx
    omega
  · rw [List.map_append, List.nodup_append]
    refine ⟨h.ky, by simp, ?_⟩
    intro a ha b hb
    obtain ⟨x, hx, rfl⟩ := List.mem_map.1 ha
    simp at hb
    subst hb
    have := fnd_none hf x.e (List.mem_map.2 ⟨x, hx, rfl⟩)
    intro e
    simp at e
    exact this ⟨e.1.symm, e.2.symm⟩

theorem place_new (w : World) (t r clock : Nat) (T : List PL) (h : TabAt w t r T clock) (p c : Int) (hf : fnd p c (T.map PL.e) 0 = none) :
    Calls Try.prog 26 #[.pointer (some ⟨t, 0, none⟩), .int .i64 p, .int .i64 c] w fun e w' => ∃ a, e = .returned (.pointer (some ⟨a, 0, none⟩)) ∧ Fr (fun k => k = r) w w' ∧ w.heap.size ≤ a ∧ TabAt w' t r (T ++ [⟨⟨p, c, a, clock⟩, 0, -1, 0⟩]) (clock + 1) := by
  have hA := h.same ((Fr.refl _ w).alloc (.cells #[.int .i64 p, .int .i64 c] 59))
  have l1 : ∀ n, (Instr.lookup 50 (.map (some r)) (.agg #[.int .i64 p, .int .i64 c]) false).run Try.prog ((w.alloc (.cells #[.int .i64 p, .int .i64 c] 59)).drewN n) = .ok (.pointer none) ((w.alloc (.cells #[.int .i64 p, .int .i64 c] 59)).drewN n) := by
    intro n
    have := look_any (w := (w.alloc (.cells #[.int .i64 p, .int .i64 c] 59)).drewN n) hA.mp p c false
    rw [hf] at this
    exact this
  have c1 := hA.cell
  have hF1 : ∀ n, Fr (fun _ => False) w ((w.alloc (.cells #[.int .i64 p, .int .i64 c] 59)).drewN n) := fun n => ((Fr.refl _ _).alloc _).drewN _
  have hkb : ∀ n, ((w.alloc (.cells #[.int .i64 p, .int .i64 c] 59)).drewN n).heap[w.heap.size]? = some (.cells #[.int .i64 p, .int .i64 c] 59 (0, 0)) := fun n => heap_alloc_new w _
  have hsz : ∀ n, ((w.alloc (.cells #[.int .i64 p, .int .i64 c] 59)).drewN n).heap.size = w.heap.size + 1 := fun n => World.size_alloc w _
  have HK := hide (fun W => unseen_any W p c)
  have HF := hide hF1
  have HKB := hide hkb
  have HSZ := hide hsz
  have HT := hide h
  clear h hA hF1 hkb hsz
  go_enter Try.func26, Try.ntmps26
  go_wp2_with fail
  go_quiet (fail)
  have HF1 := hide (HF.out nq)
  have HK1 := hide (HKB.out nq)
  have HS1 := hide (HSZ.out nq)
  clear c1 l1
  generalize (w.alloc (.cells #[.int .i64 p, .int .i64 c] 59)).drewN nq = W1 at *
  go_wp2_with (first
    | (go_at_call 24; refine (HK.out _).mono ?_; rintro e1 w2 ⟨rfl, F2⟩; unfold fdV; have HF2 := hide F2; clear F2))
  have F2 := HF2.out
  have hs2 : w.heap.size + 1 ≤ w2.heap.size := by have := F2.size; rw [HS1.out] at this; exact this
  have hk2 : w2.heap[w.heap.size]? = some (.cells #[.int .i64 p, .int .i64 c] 59 (0, 0)) := (F2.block _ (by rw [HS1.out]; omega) (fun e => e)).trans HK1.out
  have T2 : TabAt w2 t r T clock := HT.out.same (HF1.out.trans F2 (fun _ _ e => e))
  have T3 := T2.same ((Fr.refl _ w2).alloc (.cells #[.int .i64 p, .int .i64 c, .int .i64 0, .int .i64 (-1), .int .i64 0] 56))
  have c3 := T3.cell
  have hk3 : (w2.alloc (.cells #[.int .i64 p, .int .i64 c, .int .i64 0, .int .i64 (-1), .int .i64 0] 56)).heap[w.heap.size]? = some (.cells #[.int .i64 p, .int .i64 c] 59 (0, 0)) := (heap_alloc_old _ _ (by omega)).trans hk2
  have y0 : (w2.alloc (.cells #[.int .i64 p, .int .i64 c, .int .i64 0, .int .i64 (-1), .int .i64 0] 56)).cell? ⟨w.heap.size, 0, none⟩ = some (.int .i64 p) := by rw [cell_of_row _ _ 0 _ _ _ hk3]; rfl
  have y1 : (w2.alloc (.cells #[.int .i64 p, .int .i64 c, .int .i64 0, .int .i64 (-1), .int .i64 0] 56)).cell? ⟨w.heap.size, 1, none⟩ = some (.int .i64 c) := by rw [cell_of_row _ _ 1 _ _ _ hk3]; rfl
  have hrun : (Instr.mapUpdate 50 (.map (some r)) (.agg #[.int .i64 p, .int .i64 c]) (.pointer (some ⟨w2.heap.size, 0, none⟩))).run Try.prog (w2.alloc (.cells #[.int .i64 p, .int .i64 c, .int .i64 0, .int .i64 (-1), .int .i64 0] 56)).drew = .ok () (laidM (w2.alloc (.cells #[.int .i64 p, .int .i64 c, .int .i64 0, .int .i64 (-1), .int .i64 0] 56)).drew r (T.map PL.e ++ [PE.mk p c w2.heap.size clock]) (clock + 1)) := update_new (w := (w2.alloc (.cells #[.int .i64 p, .int .i64 c, .int .i64 0, .int .i64 (-1), .int .i64 0] 56)).drew) T3.mp hf w2.heap.size
  have HT2 := hide T2
  have HFI := hide hf
  clear F2 hk2 T2 T3 hk3 hf
  go_region
  go_wp2
  go_ret
  have hF : Fr (fun k => k = r) w w2 := (HF1.out.trans HF2.out (fun _ _ e => e)).mono (fun _ _ e => e.elim)
  exact ⟨_, rfl, Fr.laidM (hF.alloc _).drew (fun _ => rfl) _ _, by omega, HT2.out.push HFI.out⟩

end Go.Proofs.Ytcefeclgehijpaa
