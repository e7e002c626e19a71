/-
  What is proved here: a half is made empty; a new heap; an object is laid.
-/
import Derived.Test.YtchdfenickjiiaaHHeap4
namespace Go.Proofs.Ytchdfenickjiiaa
open Go Go.RowKit

/-- A slice cut to nothing. -/
def cut0 : Value → Value
  | .slice ao _ cap => .slice ao 0 cap
  | v => v
theorem Own.cut0 {k : IntKind} {E : TypeId} {w : World} {base : Nat} {v : Value} {n : Nat} {f g : Nat → Nat} (h : Own k E w base v n f) : Own k E w base (cut0 v) 0 g ∧ (cut0 v).ownBlock = v.ownBlock := by
  rcases h with ⟨rfl, rfl⟩ | ⟨b, cap, rfl, h1, h2, h3⟩
  · exact ⟨.inl ⟨rfl, rfl⟩, rfl⟩
  · obtain ⟨cur, e1, e2, e3, e4⟩ := h3
    exact ⟨.inr ⟨b, cap, rfl, h1, h2, cur, e1, e2, Nat.zero_le _, fun i hi => by omega⟩, rfl⟩
theorem Own.caps {k : IntKind} {E : TypeId} {w : World} {base : Nat} {v : Value} {n : Nat} {f : Nat → Nat} (h : Own k E w base v n f) : ∃ ao cap, v = .slice ao n cap ∧ n ≤ cap ∧ cap ≤ 9223372036854775807 ∧ (ao = none → cap = 0) ∧ (∀ a, ao = some a → ∃ g, a = ⟨g, 0, none⟩) := by
  rcases h with ⟨rfl, rfl⟩ | ⟨g, cap, rfl, h1, h2, h3⟩
  · exact ⟨none, 0, rfl, Nat.le_refl _, by decide, fun _ => rfl, fun a e => by cases e⟩
  · exact ⟨some ⟨g, 0, none⟩, cap, rfl, h3.le, h2, (fun e => by cases e), fun a e => by cases e; exact ⟨g, rfl⟩⟩

set_option maxRecDepth 20000 in
set_option maxHeartbeats 1000000 in
theorem empty_any (T : TypeId) (w : World) (hb : Nat) (cur : Array Value) (o : Nat) (v u : Value) (n : Nat) (f : Nat → Nat) (m : Nat) (s : Nat → Nat) (h : HalfAt 22 T w hb cur o v u n f m s) :
    Calls Try.prog 84 #[.pointer (some ⟨hb, o, none⟩)] w fun e w' => e = .returned (.tuple #[]) ∧ ∃ v' u', HalfAt 22 T w' hb ((cur.setIfInBounds o v').setIfInBounds (o + 1) u') o v' u' 1 (fun _ => 0) 0 s ∧ Stays w.heap.size u u' ∧ Stays w.heap.size v v' ∧ Fr (foot hb v u) w w' := by
  obtain ⟨i, hi, hz0, hz1, hz2⟩ := info_parts infoW
  have hcv := h.cellv
  have hcu := h.cellu
  have ev := h.ov.cut0 (g := fun _ => 0)
  have eu := h.ou.cut0 (g := s)
  obtain ⟨ao, cap, rfl, hv1, hv2, hv3, hv4⟩ := h.ov.caps
  obtain ⟨bo, capu, rfl, hu1, hu2, hu3, hu4⟩ := h.ou.caps
  have hown := ev.1.row
  simp only [cut0] at hown ev eu
  have HH := hide h
  have HU := hide eu
  have HV := hide ev
  clear h eu ev
  go_enter Try.func84, Try.ntmps84
  go_wp2_with (at_builtin; refine wpList_append_lies _ rfl _ _ 35 rfl 0 22 i (.int .u64 0) 1 8 Try.underlying35 hi hz0 hz1 hz2 rfl (by decide) (.slice ao 0 cap) 0 _ rfl (hown.alloc _) ⟨w.heap.size, 0, none⟩ 1 1 [.int .u64 0] rfl rfl (hcells_one _ _ _) (fun u hu => by simp at hu; subst hu; rfl) (by decide) (by unfold maxLen; omega) (by omega) (by simp) (w.heap.size + 1) (by simp) ?_; intro g cap2 w2 hown2 hgrow hat hlt2; rw [HV.out.2] at hgrow hat; obtain ⟨hc2, hf2, hH2⟩ := HH.out.regrowV (((Fr.refl _ w).alloc _).grow hgrow (fun k _ e => e)) (Own.snoc hown2) (lies_stays hat (by omega)); have hcu2 := hH2.cellu; have hfz2 := hH2.free (o + 1); have HH2 := hide hH2; have G2 := hide hgrow; have A2 := hide hat; clear hH2 hgrow hat hlt2 hown2 hown)
  go_end0
  have hF : Fr (foot hb (.slice ao n cap) (.slice bo m capu)) w (w2.setCell ⟨hb, o, none⟩ (.slice (some ⟨g, 0, none⟩) (0 + 1) cap2)) := (((Fr.refl _ w).alloc _).grow G2.out (fun k _ e => .inr (.inl e))).setCell (fun _ => .inl rfl) _ _
  refine ⟨rfl, .slice (some ⟨g, 0, none⟩) 1 cap2, .slice bo 0 capu, ?_, fun g hg => .inl (by rw [← HU.out.2]; exact hg), lies_stays A2.out (by omega), hF.setCell (fun _ => .inl rfl) _ _⟩
  have hou := HH2.out.ou.cut0 (g := s)
  have hou2 : (Value.slice bo 0 capu).ownBlock = (Value.slice bo m capu).ownBlock := hou.2
  have h3 := HH2.out.putU (u' := .slice bo 0 capu) hou.1 (by rw [hou2]; exact HH2.out.nu) (fun g hg e => HH2.out.nn g hg (by rw [← hou2]; exact e))
  exact ⟨h3.blk, h3.cv, h3.cu, h3.ov.congr (fun i hi => by obtain rfl : i = 0 := (by omega); rfl), h3.ou, h3.nv, h3.nu, h3.nn⟩

theorem heapCells_u {i : Nat} (hi : i ≤ 1) (v u v' u' x : Value) (sz : Nat) (tm : Int) : (heapCells i v u v' u' sz tm).setIfInBounds (2 * i + 1) x = heapCells i v x v' u' sz tm := by
  rcases Nat.le_one_iff_eq_zero_or_eq_one.1 hi with rfl | rfl <;> rfl
theorem heapCells_v {i : Nat} (hi : i ≤ 1) (v u v' u' x : Value) (sz : Nat) (tm : Int) : (heapCells i v u v' u' sz tm).setIfInBounds (2 * i) x = heapCells i x u v' u' sz tm := by
  rcases Nat.le_one_iff_eq_zero_or_eq_one.1 hi with rfl | rfl <;> rfl
theorem heapCells_other {i : Nat} (hi : i ≤ 1) (v u v' u' : Value) (sz : Nat) (tm : Int) : (heapCells i v u v' u' sz tm)[2 * (1 - i)]? = some v' ∧ (heapCells i v u v' u' sz tm)[2 * (1 - i) + 1]? = some u' := by
  rcases Nat.le_one_iff_eq_zero_or_eq_one.1 hi with rfl | rfl <;> exact ⟨rfl, rfl⟩

/-- New blocks: those that were there, or new ones. -/
def Grows (H : Nat) (X X' : Nat → Prop) : Prop := ∀ k, X' k → X k ∨ H ≤ k
theorem Grows.refl (H : Nat) (X : Nat → Prop) : Grows H X X := fun _ h => .inl h
theorem Grows.trans {H H' : Nat} {X Y Z : Nat → Prop} (h : Grows H X Y) (k : Grows H' Y Z) (hH : H ≤ H') : Grows H X Z := fun g hg => by
  rcases k g hg with e | e
  · exact h g e
  · exact .inr (by omega)

/-- The half in use is another one now, at the same place; the other one stays. -/
theorem HeapIn.swap {w w2 : World} {hb : Nat} {X : Nat → Prop} {sz : Nat} {tm : Int} {n : Nat} {f : Nat → Nat} {st : Nat → Bool} {i : Nat} {v u v' u' : Value} {m : Nat} {s : Nat → Nat} {n' : Nat} {f' : Nat → Nat} {m' : Nat} {s' : Nat → Nat} (h : HeapIn w hb X sz tm n f st i v u v' u' m s n' f' m' s')
    {v2 u2 : Value} {n2 : Nat} {f2 : Nat → Nat} {m2 : Nat} {s2 : Nat → Nat} {st2 : Nat → Bool} (ha : HalfAt 22 134 w2 hb (heapCells i v2 u2 v' u' sz tm) (2 * i) v2 u2 n2 f2 m2 s2) (hu : Stays w.heap.size u u2) (hv : Stays w.heap.size v v2) (hf : Fr (foot hb v u) w w2)
    (hmk : ∀ p, st2 p = marks m2 s2 p) (hsb : ∀ i, i < m2 → s2 i < 18446744073709551616) (hml : m2 ≤ 16385) (hg : Good n2 f2 st2) (hfb : ∀ i, i < n2 → f2 i < 18446744073709551616) (hnz : n2 ≤ sz) :
    ∃ X2, HeapAt w2 hb X2 sz tm n2 f2 st2 ∧ Grows w.heap.size X X2 ∧ Fr X w w2 := by
  have key : ∀ g, (v2.ownBlock = some g ∨ u2.ownBlock = some g) → (v.ownBlock = some g ∨ u.ownBlock = some g) ∨ w.heap.size ≤ g := fun g e => by
    rcases e with e | e
    · rcases hv g e with e | e
      · exact .inl (.inl e)
      · exact .inr e
    · rcases hu g e with e | e
      · exact .inl (.inr e)
      · exact .inr e
  have hnot : ∀ g, (v'.ownBlock = some g ∨ u'.ownBlock = some g) → ¬ foot hb v u g := fun g e e2 => by
    rcases e2 with e2 | e2
    · subst e2
      rcases e with e | e
      · exact h.b.nv e
      · exact h.b.nu e
    · exact h.far g e2 e
  refine ⟨fun k => foot hb v2 u2 k ∨ v'.ownBlock = some k ∨ u'.ownBlock = some k, ⟨i, v2, u2, v', u', m2, s2, n', f', m', s', h.i1, ha, ⟨ha.blk, (heapCells_other h.i1 _ _ _ _ _ _).1, (heapCells_other h.i1 _ _ _ _ _ _).2, h.b.ov.fr hf fun g hg => hnot g (.inl hg), h.b.ou.fr hf fun g hg => hnot g (.inr hg), h.b.nv, h.b.nu, h.b.nn⟩, fun g e e2 => ?_, hmk, hsb, hml, hg, hfb, hnz, h.z, fun _ => Iff.rfl⟩, fun k hk => ?_, hf.mono fun k _ e => (h.xs k).2 (.inl e)⟩
  · rcases key g e with e | e
    · exact h.far g e e2
    · rcases e2 with e2 | e2
      · have := h.b.ov.block_lt e2; omega
      · have := h.b.ou.block_lt e2; omega
  · rcases hk with (e | e) | e
    · exact .inl ((h.xs k).2 (.inl (.inl e)))
    · rcases key k e with e | e
      · exact .inl ((h.xs k).2 (.inl (.inr e)))
      · exact .inr e
    · exact .inl ((h.xs k).2 (.inr e))

set_option maxRecDepth 20000 in
theorem new_bad (z : Int) (w : World) (h : z < 2 ∨ 1048576 < z) :
    Calls Try.prog 43 #[.int .i64 z] w fun e w' => e = .returned (.tuple #[.pointer none, .int .i64 1]) ∧ w' = w := by
  by_cases h2 : z < 2
  · clear h
    go_enter Try.func43, Try.ntmps43
    go_wp2
    go_ret2
    exact ⟨rfl, rfl⟩
  · have h3 : 1048576 < z := by omega
    clear h
    go_enter Try.func43, Try.ntmps43
    go_wp2
    go_ret2
    exact ⟨rfl, rfl⟩

set_option maxRecDepth 20000 in
theorem new_ok (z : Nat) (w : World) (h1 : 2 ≤ z) (h2' : z ≤ 1048576) :
    Calls Try.prog 43 #[.int .i64 (z : Int)] w fun e w' => e = .returned (.tuple #[.pointer (some ⟨w.heap.size, 0, none⟩), .int .i64 0]) ∧ ∃ X, HeapAt w' w.heap.size X z 0 1 (fun _ => 0) (fun _ => false) ∧ (∀ k, X k → w.heap.size ≤ k) ∧ Fr (fun _ => False) w w' := by
  have hb0 : (w.alloc (.cells #[.slice none 0 0, .slice none 0 0, .slice none 0 0, .slice none 0 0, .int .i64 0, .int .i64 (z : Int), .int .i64 0] 134)).heap[w.heap.size]? = some (.cells (heapCells 0 (.slice none 0 0) (.slice none 0 0) (.slice none 0 0) (.slice none 0 0) z 0) 134 (0, 0)) := heap_alloc_new w _
  have hN : ∀ (f : Nat → Nat) (w : World), Own .u64 22 w 0 (.slice none 0 0) 0 f := fun _ _ => .inl ⟨rfl, rfl⟩
  have hh : ∀ (j : Nat), j ≤ 1 → HalfAt 22 134 (w.alloc (.cells #[.slice none 0 0, .slice none 0 0, .slice none 0 0, .slice none 0 0, .int .i64 0, .int .i64 (z : Int), .int .i64 0] 134)) w.heap.size (heapCells 0 (.slice none 0 0) (.slice none 0 0) (.slice none 0 0) (.slice none 0 0) z 0) (2 * j) (.slice none 0 0) (.slice none 0 0) 0 (fun _ => 0) 0 (fun _ => 0) := fun j hj =>
    ⟨hb0, by rcases Nat.le_one_iff_eq_zero_or_eq_one.1 hj with rfl | rfl <;> rfl, by rcases Nat.le_one_iff_eq_zero_or_eq_one.1 hj with rfl | rfl <;> rfl, hN _ _, hN _ _, (fun e => by cases e), (fun e => by cases e), fun g e => by cases e⟩
  have K := now_any _ w.heap.size 0 _ _ _ _ z 0 (by decide) hb0
  have KE := fun q => empty_any 134 _ w.heap.size _ (2 * 0) _ _ 0 _ 0 _ ((hh 0 (by decide)).drewN q)
  have HHH := hide hh
  clear hh hb0
  go_enter Try.func43, Try.ntmps43
  go_wp2_with (first | (go_at_call 60; refine K.mono ?_; rintro e w1 ⟨rfl, q, rfl⟩) | (go_at_call 84; refine (KE q).mono ?_; rintro e w2 ⟨rfl, v2, u2, h2, su2, sv2, hf2⟩))
  go_ret2
  refine ⟨rfl, ?_⟩
  have hsz : ∀ g, (v2.ownBlock = some g ∨ u2.ownBlock = some g) → w.heap.size ≤ g := fun g e => by
    rcases e with e | e
    · rcases sv2 g e with e | e
      · cases e
      · simp at e; omega
    · rcases su2 g e with e | e
      · cases e
      · simp at e; omega
  have hb2 : HalfAt 22 134 w2 w.heap.size (heapCells 0 v2 u2 (.slice none 0 0) (.slice none 0 0) z 0) (2 * 0) v2 u2 1 (fun _ => 0) 0 (fun _ => 0) := h2
  refine ⟨fun k => foot w.heap.size v2 u2 k ∨ (Value.slice none 0 0).ownBlock = some k ∨ (Value.slice none 0 0).ownBlock = some k, ⟨0, v2, u2, _, _, 0, _, 0, fun _ => 0, 0, fun _ => 0, by decide, hb2, ⟨hb2.blk, rfl, rfl, hN _ _, hN _ _, (fun e => by cases e), (fun e => by cases e), fun g e => by cases e⟩, (fun g _ e => by rcases e with e | e <;> cases e), (fun p => by simp [marks]), (fun i hi => by omega), (by decide), Good.one, (fun i _ => by show (0 : Nat) < _; decide), (by omega), h2', fun _ => Iff.rfl⟩, fun k hk => ?_, ?_⟩
  · rcases hk with (e | e) | e | e
    · omega
    · exact hsz k e
    · cases e
    · cases e
  · refine Fr.trans (((Fr.refl _ w).alloc _).drewN q) hf2 fun k hk e => ?_
    rcases e with e | e | e
    · omega
    · cases e
    · cases e

set_option maxRecDepth 20000 in
theorem alloc_bad (w : World) (hb : Nat) (X : Nat → Prop) (sz : Nat) (tm : Int) (n : Nat) (f : Nat → Nat) (st : Nat → Bool) (k t r : Int) (h : HeapAt w hb X sz tm n f st) (hbad : k < 1 ∨ 63 < k ∨ t < 0 ∨ 1048576 < t ∨ r < 0 ∨ 1048576 < r) :
    Calls Try.prog 51 #[.pointer (some ⟨hb, 0, none⟩), .int .i64 k, .int .i64 t, .int .i64 r] w fun e w' => e = .returned (.tuple #[.int .u64 0, .bool false]) ∧ ∃ q, w' = w.drewN q := by
  by_cases h1 : k < 1
  · clear hbad
    go_enter Try.func51, Try.ntmps51
    go_wp2
    go_ret2
    exact ⟨rfl, 0, rfl⟩
  · by_cases h2 : 63 < k
    · clear hbad
      go_enter Try.func51, Try.ntmps51
      go_wp2
      go_ret2
      exact ⟨rfl, 0, rfl⟩
    · by_cases h3 : 0 ≤ t ∧ t ≤ 1048576
      · have h4 : cntB r = false := cntB_no (by omega)
        have h5 : cntB t = true := cntB_yes h3.1 h3.2
        clear hbad h3
        go_enter Try.func51, Try.ntmps51
        go_wp2_with (go_at_call 87; refine (isCount_any _ _).mono ?_; rintro e w' ⟨rfl, rfl⟩)
        go_ret2
        exact ⟨rfl, 0, rfl⟩
      · have h5 : cntB t = false := cntB_no (by omega)
        clear hbad h3
        go_enter Try.func51, Try.ntmps51
        go_wp2_with (go_at_call 87; refine (isCount_any _ _).mono ?_; rintro e w' ⟨rfl, rfl⟩)
        go_ret2
        exact ⟨rfl, 0, rfl⟩

set_option maxRecDepth 20000 in
theorem alloc_full (w : World) (hb : Nat) (X : Nat → Prop) (sz : Nat) (tm : Int) (n : Nat) (f : Nat → Nat) (st : Nat → Bool) (k t r : Nat) (h : HeapAt w hb X sz tm n f st) (hk1 : 1 ≤ k) (hk : k ≤ 63) (ht : t ≤ 1048576) (hr : r ≤ 1048576) (hfull : sz < n + 1 + t + r) :
    Calls Try.prog 51 #[.pointer (some ⟨hb, 0, none⟩), .int .i64 (k : Int), .int .i64 (t : Int), .int .i64 (r : Int)] w fun e w' => e = .returned (.tuple #[.int .u64 0, .bool false]) ∧ ∃ q, w' = w.drewN q := by
  have h4 : cntB (r : Int) = true := cntB_yes (by omega) (by omega)
  have h5 : cntB (t : Int) = true := cntB_yes (by omega) (by omega)
  have hlen := hLen_of hk ht hr
  have hx := hOf_lt hk ht hr
  have hnz := h.good.2.2
  have HA := hide h
  have hc : w.cell? ⟨hb, 5, none⟩ = some (.int .i64 (sz : Int)) := by
    obtain ⟨i, v, u, v', u', m, s, n', f', m', s', h⟩ := h
    rw [cell_of_row w hb 5 _ _ _ h.a.blk]
    rcases Nat.le_one_iff_eq_zero_or_eq_one.1 h.i1 with e | e <;> rw [e] <;> rfl
  have KW := fun w => words_num (hOf k t r) w hx
  rw [hlen] at KW
  clear h
  go_enter Try.func51, Try.ntmps51
  go_wp2_with (first | (go_at_call 87; refine (isCount_any _ _).mono ?_; rintro e w' ⟨rfl, rfl⟩) | (go_at_call 88; refine (headerOf_any _ _ _ _ hk ht hr).mono ?_; rintro e w' ⟨rfl, rfl⟩))
  go_quiet ((first | (go_at_call 89; exact Calls.quiet_of_same (KW _)) | (go_at_call 20; exact Calls.quiet_of (used_any _ _ X sz tm n f st (HA.out.drewN _)))))
  go_wp2
  go_ret2
  exact ⟨rfl, _, rfl⟩

end Go.Proofs.Ytchdfenickjiiaa
