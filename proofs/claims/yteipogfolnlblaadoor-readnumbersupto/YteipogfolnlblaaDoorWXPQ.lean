/-
  What is proved here: a list that was read has no more items than bytes; data, one level up; no walk. package read's joined.
-/
import Derived.Test.YteipogfolnlblaaDoorWXN
import Derived.Laws.AppendOwnNone
namespace Go.Proofs.YteipogfolnlblaaDoor
open Go Go.RowKit

def itN {h : Nat} (tr : Tr (h + 1)) : Nat := tr.2.2.2.2.2.1.length

theorem itN_seq {h : Nat} (k : Int) (I R : List (Tr h)) : itN (seqT k I R) = I.length := rfl

theorem itN_lf (h : Nat) (x : Lf) : itN (lfT h x) = 0 := rfl

theorem itN_join {h : Nat} (I : List (Tr (h + 1))) (tr : Tr (h + 1)) : itN (joinT I tr) ≤ I.length + itN tr := by
  obtain ⟨k, n, b, L, t, J, R⟩ := tr
  unfold joinT
  simp only []
  split
  · rw [itN_seq]
    simp [itN]
  · rw [itN_seq]
    omega

/-- A datum of the next piece: the reader has gone on. -/
theorem nd_lt {T : List UInt8} {f h a : Nat} (hf : 1 ≤ f) (ha : a ≤ T.length) {x y : Nat} {tr : Tr (h + 1)} {a' : Nat} (e : (rdM T f h).dt ((rdM T f h).nx 0 a) = .inr (x, y, tr, a')) : a < ((rdM T f h).nx 0 a).a ∧ ((rdM T f h).nx 0 a).a ≤ a' ∧ a' ≤ T.length := by
  have ih := rdM_ok T f h
  have hn := ih.1 0 a ha
  have hd := ih.2.1 _ hn.1.1 hn.1.2.1 hn.1.2.2
  obtain ⟨g, rfl⟩ : ∃ g, f = g + 1 := ⟨f - 1, by omega⟩
  have k0 : ((rdM T (g + 1) h).nx 0 a).k ≠ 0 := fun e0 => by
    have e' : dtS T (rdM T g) h ((rdM T (g + 1) h).nx 0 a) = .inr (x, y, tr, a') := e
    unfold dtS at e'
    rw [if_pos e0] at e'
    cases e'
  have k11 : ((rdM T (g + 1) h).nx 0 a).k ≠ 11 := fun e0 => by
    obtain ⟨q, hq⟩ := dt_bad T (g + 1) h _ e0
    rw [hq] at e
    cases e
  rw [e] at hd
  exact ⟨(hn.2 k11).2.2 k0, hd.1, hd.2.1⟩

theorem rdM_items (T : List UInt8) : ∀ (f h : Nat),
    (∀ p x y tr a', PieceOK T.length p → p.k ≠ 1 → p.k ≠ 2 → (rdM T f h).dt p = .inr (x, y, tr, a') → itN tr ≤ (a' - p.a) + 1) ∧
    (∀ x k I a x2 y2 tr a', a ≤ T.length → (rdM T f h).rw x k I a = .inr (x2, y2, tr, a') → itN tr ≤ I.length + (a' - a))
  | 0, h => ⟨fun p x y tr a' _ _ _ e => (by cases e), fun x k I a x2 y2 tr a' _ e => (by cases e)⟩
  | f + 1, h => by
    have ih := rdM_items T f
    refine ⟨fun p x y tr a' hp k1 k2 e => ?_, fun x k I a x2 y2 tr a' ha e => ?_⟩
    · replace e : dtS T (rdM T f) h p = .inr (x, y, tr, a') := e
      unfold dtS at e
      split at e
      · cases e
      split at e
      · cases e
      split at e
      · cases e
      rename_i k0 k4 k8
      split at e
      · unfold inM at e
        split at e
        · cases e
        · rename_i h' 
          by_cases k11 : p.k = 11
          · omega
          obtain ⟨hpa, -⟩ := hp.at k11
          unfold nestM at e
          split at e
          · have := (ih h').2 _ _ _ _ _ _ _ _ hpa e
            simp only [List.length_nil] at this
            omega
          split at e
          · have := (ih h').2 _ _ _ _ _ _ _ _ hpa e
            simp only [List.length_nil] at this
            omega
          · unfold abM at e
            match hr : (rdM T f h').dt ((rdM T f h').nx 0 p.a) with
            | .inl q => rw [hr] at e; cases e
            | .inr (x3, y3, tr3, a3) =>
              rw [hr] at e
              have hf : 1 ≤ f := by
                match f, hr with
                | 0, hr => cases hr
                | f + 1, _ => omega
              have := nd_lt hf hpa hr
              cases e
              rw [itN_seq]
              simp only [List.length_cons, List.length_nil]
              omega
      split at e
      · unfold ofLP at e
        split at e
        · cases e
        · cases e; rw [itN_lf]; omega
      split at e
      · unfold ofLP at e
        split at e
        · cases e
        · cases e; rw [itN_lf]; omega
      split at e
      · unfold atomR at e
        split at e
        · cases e
        · cases e; rw [itN_lf]; omega
      · cases e
    · replace e : rwS (rdM T f h) x k I a = .inr (x2, y2, tr, a') := e
      have hn := (rdM_ok T f h).1 0 a ha
      unfold rwS at e
      split at e
      · cases e; rw [itN_seq]; omega
      split at e
      · rename_i c4 c8
        have g1 := hn.2 (by omega)
        have g2 := g1.2.2 (by omega)
        generalize ((rdM T f h).nx 0 a).a = a2 at *
        have ha2 : a2 ≤ T.length := g1.2.1
        unfold dotM at e
        split at e
        · cases e
        · match hr : (rdM T f h).dt ((rdM T f h).nx 0 a2) with
          | .inl q => rw [hr] at e; cases e
          | .inr (x3, y3, tr3, a3) =>
            rw [hr] at e
            dsimp only at e
            have hf : 1 ≤ f := by
              match f, hr with
              | 0, hr => cases hr
              | f + 1, _ => omega
            have h3 := nd_lt hf ha2 hr
            have hn3 := (rdM_ok T f h).1 0 a3 h3.2.2
            have hq := (rdM_ok T f h).1 0 a2 ha2
            have hi := (ih h).1 _ _ _ _ _ hq.1.1 hq.1.2.1 hq.1.2.2 hr
            split at e
            · cases e
              have h5 := hn3.2 (by omega)
              have h6 := itN_join I tr3
              omega
            · split at e
              · split at e <;> cases e
              · cases e
      · match hr : (rdM T f h).dt ((rdM T f h).nx 0 a) with
        | .inl q => rw [hr] at e; cases e
        | .inr (x3, y3, tr3, a3) =>
          rw [hr] at e
          dsimp only at e
          have hf : 1 ≤ f := by
            match f, hr with
            | 0, hr => cases hr
            | f + 1, _ => omega
          have h3 := nd_lt hf ha hr
          have h4 := (ih h).2 _ _ _ _ _ _ _ _ h3.2.2 e
          have h5 := (rdM_ok T f h).2.2 x k (I ++ [tr3]) a3 h3.2.2
          rw [e] at h5
          have := h5.1
          rw [List.length_append, List.length_singleton] at h4
          omega

/-- Data one level up lie as they lay. -/
theorem RowD.map {α β : Type} {w : World} {P : α → List Value → Prop} {P' : β → List Value → Prop} {v : Value} {I : List α} (f : α → β) (h : RowD w P v I) (hP : ∀ a cs, P a cs → P' (f a) cs) : RowD w P' v (I.map f) := by
  obtain ⟨ao, cap, rfl, h1, h2, h3⟩ := h
  refine ⟨ao, cap, by rw [List.length_map], by rw [List.length_map]; exact h1, h2, ?_⟩
  rcases h3 with h3 | ⟨b, off, rfl, h3⟩
  · exact .inl (by rw [List.length_map]; exact h3)
  · refine .inr ⟨b, off, rfl, fun i hi => ?_⟩
    rw [List.length_map] at hi
    obtain ⟨cs, k1, k2, k3⟩ := h3 i hi
    exact ⟨cs, k1, k2, by rw [List.getElem_map]; exact hP _ _ k3⟩

theorem DatQ.lift {Q : Nat → Prop} {w : World} : {h : Nat} → {d : Tr h} → {cs : List Value} → DatQ Q w h d cs → DatQ Q w (h + 1) (upT h d) cs
  | 0, _, _, h => h.elim
  | h + 1, (k, n, b, L, t, I, R), cs, hd => by
    obtain ⟨um, ui, ur, e, h0, h1, h2, h3, h4, v1, v2, v3⟩ := hd
    exact ⟨um, ui, ur, e, h0, h1, h2, h3.map _ (fun _ _ h => DatQ.lift h), h4.map _ (fun _ _ h => DatQ.lift h), v1, by rw [List.length_map]; exact v2, by rw [List.length_map]; exact v3⟩

/-- The cells of a row, one behind the other. -/
theorem row_news {α : Type} {w : World} {P : α → List Value → Prop} {J : List α} {b off m c : Nat} (h : RowD w P (.slice (some ⟨b, off, none⟩) m c) J) : m = J.length ∧ ∃ news : List Value, news.length = m * 7 ∧ (∀ j u, news[j]? = some u → w.cell? ⟨b, off + j, none⟩ = some u) ∧ ∀ i (hi : i < J.length), P J[i] (sv news i) := by
  obtain ⟨ao, cap, e, h1, h2, h3⟩ := h
  cases e
  refine ⟨rfl, ?_⟩
  rcases h3 with h3 | ⟨b', off', e, h3⟩
  · have : J = [] := List.eq_nil_of_length_eq_zero h3
    subst this
    exact ⟨[], rfl, fun j u hj => by simp at hj, fun i hi => by simp at hi⟩
  · cases e
    have hc : ∀ k, k < J.length * 7 → ∃ u, w.cell? ⟨b, off + k, none⟩ = some u := fun k hk => by
      obtain ⟨cs, k1, k2, -⟩ := h3 (k / 7) (by omega)
      have := k2 (k % 7) (Nat.mod_lt _ (by decide))
      rw [show off + k / 7 * 7 + k % 7 = off + k by omega] at this
      exact ⟨_, this.trans (List.getElem?_eq_getElem (by omega))⟩
    refine ⟨(List.range (J.length * 7)).map (fun k => (w.cell? ⟨b, off + k, none⟩).getD undef), by simp, fun j u hj => ?_, fun i hi => ?_⟩
    · rw [List.getElem?_map] at hj
      obtain ⟨k, hk, rfl⟩ := Option.map_eq_some_iff.1 hj
      obtain ⟨hlt, e⟩ := List.getElem?_eq_some_iff.1 hk
      simp only [List.getElem_range] at e
      subst e
      simp only [List.length_range] at hlt
      obtain ⟨u, hu⟩ := hc j hlt
      rw [hu]; rfl
    · obtain ⟨cs, k1, k2, k3⟩ := h3 i hi
      have e : sv ((List.range (J.length * 7)).map (fun k => (w.cell? ⟨b, off + k, none⟩).getD undef)) i = cs := by
        apply List.ext_getElem?
        intro j
        unfold sv
        rw [List.getElem?_take]
        by_cases hj : j < 7
        · rw [if_pos hj, List.getElem?_drop, List.getElem?_map, List.getElem?_eq_getElem (by simp; omega)]
          simp only [List.getElem_range, Option.map_some]
          have := k2 j hj
          rw [show off + i * 7 + j = off + (i * 7 + j) by omega] at this
          rw [this, List.getElem?_eq_getElem (by omega)]
          rfl
        · rw [if_neg hj, List.getElem?_eq_none (by omega)]
      rw [e]
      exact k3

/-- A row of the call's own, read. -/
theorem own_row {α : Type} {W : World} {P : α → List Value → Prop} {lo N : Nat} {v : Value} {xs : List Value} {I : List α} (own : W.ownsRow lo 31 7 v N xs) (hN : N = I.length) (it : ∀ j (hj : j < I.length), P I[j] (sv xs j)) : RowD W P v I ∧ VQ (fun k => lo ≤ k ∧ v.ownBlock = some k) v I.length := by
  subst hN
  have hlen := own.1
  rcases own.2 with ⟨rfl, h0⟩ | ⟨g, cap, cur, rfl, h1, h2, h3, h4, h5, h6⟩
  · exact ⟨⟨none, 0, by rw [h0], by omega, by decide, .inl h0⟩, .inl h0⟩
  · refine ⟨⟨some ⟨g, 0, none⟩, cap, rfl, h3, by unfold maxLen at h4; omega, .inr ⟨g, 0, rfl, fun i hi => ⟨sv xs i, ?_, fun j hj => ?_, it i hi⟩⟩⟩, .inr ⟨_, _, _, rfl, h1, rfl⟩⟩
    · unfold sv
      rw [List.length_take, List.length_drop]
      omega
    · rw [cell_of_row W g _ cur _ _ h2, ← Array.getElem?_toList, Nat.zero_add]
      unfold sv
      rw [List.getElem?_take, if_pos hj, List.getElem?_drop]
      have := congrArg (fun l : List Value => l[i * 7 + j]?) h6
      simp only [List.getElem?_take] at this
      rw [if_pos (by omega)] at this
      exact this

theorem sv_app {xs ys : List Value} {j k : Nat} (hl : xs.length = k * 7) : sv (xs ++ ys) (k + j) = sv ys j := by
  unfold sv
  rw [show (k + j) * 7 = xs.length + j * 7 by omega, ← List.drop_drop, List.drop_left]

theorem append_zero {P : Program} {w : World} (base : Nat) (t ty e : TypeId) (i : TypeInfo) (size c : Nat) (i1 : Option Addr) (ht : P.underlying t = some (.slice e)) (hi : P.info? e = some i)
    (v : Value) (n : Nat) (xs : List Value) (hown : w.ownsRow base e size v n xs) :
    (Builtin.append_ #[t, t] ty #[v, .slice i1 0 c]).run P w = .ok v w := by
  cases i1 with
  | none =>
    rcases hown.2 with ⟨rfl, rfl⟩ | ⟨g, cap, cur, rfl, _, _, hnc, _⟩
    · simp [Builtin.append_, run_underlying ht, sizeOf, typeInfo, hi, Builtin.lenOf, Builtin.firstCells]
    · simp [Builtin.append_, run_underlying ht, sizeOf, typeInfo, hi, Builtin.lenOf, Builtin.firstCells, hnc, storeCells]
  | some ad =>
    rcases hown.2 with ⟨rfl, rfl⟩ | ⟨g, cap, cur, rfl, _, _, hnc, _⟩
    · simp [Builtin.append_, run_underlying ht, sizeOf, typeInfo, hi, Builtin.lenOf, Builtin.firstCells, loadCells, loadCellsFrom]
    · simp [Builtin.append_, run_underlying ht, sizeOf, typeInfo, hi, Builtin.lenOf, Builtin.firstCells, hnc, storeCells, loadCells, loadCellsFrom]

/-- append of a row of data, as a step. -/
theorem app_row {α : Type} {w : World} {PP : α → List Value → Prop} {J : List α} {i1 : Option Addr} {i2 i3 lo n : Nat} {v : Value} {xs : List Value} {ops : Array Oper} {rest : List Oper} {o : Oper} {a : Act} {Q : Exit → Act → World → Prop} (hgd : o.guard = none) (s x : Operand) (ho : o.op = .call { callee := .builtin .append, args := #[s, x], argTypes := #[29, 29] })
    (hs : a.eval s = v) (hx : a.eval x = .slice i1 i2 i3) (hown : w.ownsRow lo 31 7 v n xs) (hr : RowD w PP (.slice i1 i2 i3) J) (hone : ∀ b cs, PP b cs → ∀ u ∈ cs, u.oneCell' = true) (hb : n + J.length ≤ 1000000000) (hlo : lo ≤ w.heap.size)
    (h : ∀ v' w' news, (∀ i (hi : i < J.length), PP J[i] (sv news i)) → w'.ownsRow lo 31 7 v' (n + J.length) (xs ++ news) → w.grownBy w' v.ownBlock → (v'.ownBlock = v.ownBlock ∨ v'.ownBlock = some w.heap.size) → wpList Tryd.prog ops Q rest (a.put o.dst v') w') : wpList Tryd.prog ops Q (o :: rest) a w := by
  obtain ⟨iD, hiD, hz0, hz1, hz2⟩ := info_parts infoDr
  have hr' := hr
  obtain ⟨ao, cap, e, -, -, h3⟩ := hr'
  cases e
  by_cases hJ : J.length = 0
  · rw [hJ] at hx
    refine wpList_plain hgd fun K hK => ?_
    have hrun := append_zero (P := Tryd.prog) (w := w) lo 29 o.type 31 iD 7 i3 i1 Tryd.underlying29 hiD v n xs hown
    have hfin := h v w [] (fun i hi => by omega) (by rw [hJ, List.append_nil]; exact hown) ⟨rfl, rfl, rfl, Nat.le_refl _, fun _ _ _ => rfl⟩ (.inl rfl)
    unfold Oper.wp
    simp [execOp, ho, resolve, invoke, builtin, hs, hx, hrun, Result.andThen]
    exact hK _ _ hfin
  · rcases h3 with h3 | ⟨b, off, rfl, h3⟩
    · exact absurd h3 hJ
    obtain ⟨-, news, n1, n2, n3⟩ := row_news hr
    have one : ∀ u ∈ news, u.oneCell' = true := fun u hu => by
      obtain ⟨j, hj, rfl⟩ := List.getElem_of_mem hu
      refine hone _ _ (n3 (j / 7) (by omega)) _ ?_
      unfold sv
      refine List.mem_iff_getElem?.2 ⟨j % 7, ?_⟩
      rw [List.getElem?_take, if_pos (Nat.mod_lt _ (by decide)), List.getElem?_drop, show j / 7 * 7 + j % 7 = j by omega]
      exact List.getElem?_eq_getElem hj
    refine wpList_append_lies _ hgd s x 29 ho lo 31 iD (.agg #[.int .i64 0, .int .i64 0, .bool false, .slice none 0 0, .string ⟨#[]⟩, .slice none 0 0, .slice none 0 0]) 7 112 Tryd.underlying29 hiD hz0 hz1 hz2 rfl (by decide) v n xs hs hown ⟨b, off, none⟩ J.length i3 news hx n1 (fun j u hj => by rw [Addr.add_lit]; exact n2 j u hj) one (by omega) (by unfold maxLen; omega) (by omega) hlo w.heap.size rfl ?_
    intro g cap' w' g1 g2 g3 _
    refine h _ w' news n3 g1 g2 ?_
    rcases g3 with g3 | g3
    · exact .inl (by rw [g3]; rfl)
    · exact .inr (by rw [g3]; rfl)

end Go.Proofs.YteipogfolnlblaaDoor
