/-
  What is proved here: copies of protos of which one is turned, in memory; no walk.
-/
import Derived.Test.YtilcigjhogcjkaaPKOwnC
namespace Go.Proofs.Ytilcigjhogcjkaa
open Go Go.RowKit

theorem CPO.set {N : Nat} {w : World} {ps : List (PC N)} {G cap : Nat} {xs : List Value} {wr w5 : World} {L : Nat → Nat} (hA : CPO w ps ps.length (.slice (some ⟨G, 0, none⟩) ps.length cap) xs wr L) {j : Nat} (hj : j < ps.length) (hG : w5.heap[G]? = wr.heap[G]?) {f : Nat} (hf : f < 7) (x : Value) :
    (∀ i, i < 7 → (w5.setCell ⟨G, j * 7 + f, none⟩ x).cell? ⟨G, j * 7 + i, none⟩ = ((seven xs j).set f x)[i]?) ∧ (∀ i, i < ps.length → i ≠ j → ∀ q, q < 7 → (w5.setCell ⟨G, j * 7 + f, none⟩ x).cell? ⟨G, i * 7 + q, none⟩ = wr.cell? ⟨G, i * 7 + q, none⟩) ∧ ∀ b, b ≠ G → (w5.setCell ⟨G, j * 7 + f, none⟩ x).heap[b]? = w5.heap[b]? := by
  obtain ⟨c1, c2, -⟩ := hA.cells hj
  have hlen := hA.own.1
  rcases hA.own.2 with ⟨e, h0⟩ | ⟨g, cap', cur, e, h1, h2, h3, h4, h5, h6⟩
  · cases e
  · cases e
    have hs := heap_setCell_same w5 G (j * 7 + f) cur _ x (hG.trans h2)
    have key : ∀ q, (w5.setCell ⟨G, j * 7 + f, none⟩ x).cell? ⟨G, q, none⟩ = if j * 7 + f = q then some x else wr.cell? ⟨G, q, none⟩ := fun q => by
      rw [cell_of_row _ G q _ _ _ hs, cell_of_row wr G q cur _ _ h2, Array.getElem?_setIfInBounds]
      split
      · rw [if_pos (by omega)]
      · rfl
    refine ⟨fun i hi => ?_, fun i hi hij q hq => ?_, fun b hb => heap_setCell_other _ _ _ _ hb⟩
    · rw [key, List.getElem?_set]
      by_cases e : f = i
      · subst e
        rw [if_pos rfl, if_pos rfl, if_pos (by omega)]
      · rw [if_neg (by omega), if_neg e]
        exact c2 i hi
    · rw [key, if_neg]
      intro e
      apply hij
      omega
theorem CPO.blk {N : Nat} {w : World} {ps : List (PC N)} {G cap : Nat} {xs : List Value} {wr : World} {L : Nat → Nat} (hA : CPO w ps ps.length (.slice (some ⟨G, 0, none⟩) ps.length cap) xs wr L) : ∃ cur, wr.heap[G]? = some (.cells cur 48 (0, 0)) := by
  rcases hA.own.2 with ⟨e, h0⟩ | ⟨g, cap', cur, e, h1, h2, h3, h4, h5, h6⟩
  · cases e
  · cases e
    exact ⟨cur, h2⟩
/-- What lies in the seven cells of a copy, and that they may be set. -/
theorem CPO.at {N : Nat} {w : World} {ps : List (PC N)} {G cap : Nat} {xs : List Value} {wr : World} {L : Nat → Nat} (hA : CPO w ps ps.length (.slice (some ⟨G, 0, none⟩) ps.length cap) xs wr L) {j : Nat} (hj : j < ps.length) :
    ∃ co cc ka kc na nc, seven xs j = [.string ps[j].nm, .int .i64 ps[j].args, .int .i64 ps[j].free, .bool ps[j].rest, .slice co ps[j].code.length cc, .slice ka ps[j].ks.length kc, .slice na ps[j].ns.length nc] ∧
      (wr.cell? ⟨G, j * 7, none⟩ = some (.string ps[j].nm) ∧ wr.cell? ⟨G, j * 7 + 1, none⟩ = some (.int .i64 ps[j].args) ∧ wr.cell? ⟨G, j * 7 + 2, none⟩ = some (.int .i64 ps[j].free) ∧ wr.cell? ⟨G, j * 7 + 3, none⟩ = some (.bool ps[j].rest) ∧ wr.cell? ⟨G, j * 7 + 4, none⟩ = some (.slice co ps[j].code.length cc) ∧ wr.cell? ⟨G, j * 7 + 5, none⟩ = some (.slice ka ps[j].ks.length kc) ∧ wr.cell? ⟨G, j * 7 + 6, none⟩ = some (.slice na ps[j].ns.length nc)) ∧
      (∀ i, wr.frozen? ⟨G, i, none⟩ = false) ∧ wr.ownsRow (L j) 50 3 (.slice co ps[j].code.length cc) ps[j].code.length (cI ps[j].code) ∧ wr.ownsRow (L j) 9 1 (.slice na ps[j].ns.length nc) ps[j].ns.length (cN ps[j].ns) ∧ (Value.slice co ps[j].code.length cc).ownBlock ≠ some G ∧ (Value.slice na ps[j].ns.length nc).ownBlock ≠ some G := by
  obtain ⟨c1, c2, -⟩ := hA.cells hj
  obtain ⟨cur, hb⟩ := hA.blk
  obtain ⟨m1, m2, co, cc, ka, kc, na, nc, e, hm, ⟨h1, q1⟩, ⟨h2, q2⟩, h3, q3⟩ := hA.it j hj hj
  rw [e] at c2
  refine ⟨co, cc, ka, kc, na, nc, e, ⟨c2 0 (by decide), c2 1 (by decide), c2 2 (by decide), c2 3 (by decide), c2 4 (by decide), c2 5 (by decide), c2 6 (by decide)⟩, fun i => frozen_of_row _ _ _ _ _ hb, h1, own_le h3 (by omega), fun h => (q1 G h).2 rfl, fun h => (q3 G h).2 rfl⟩
/-- A field is turned. -/
theorem CPO.field {N : Nat} {w : World} {ps : List (PC N)} {G cap : Nat} {xs : List Value} {wr : World} {L : Nat → Nat} (hA : CPO w ps ps.length (.slice (some ⟨G, 0, none⟩) ps.length cap) xs wr L) {j : Nat} (hj : j < ps.length) {f : Nat} (hf : f < 4) (x : Value) (p' : PC N) (hp : p'.code = ps[j].code ∧ p'.ks = ps[j].ks ∧ p'.ns = ps[j].ns) (hx : [.string ps[j].nm, .int .i64 ps[j].args, .int .i64 ps[j].free, .bool ps[j].rest].set f x = [.string p'.nm, .int .i64 p'.args, .int .i64 p'.free, .bool p'.rest]) :
    RowD (wr.setCell ⟨G, j * 7 + f, none⟩ x) (PCellN (wr.setCell ⟨G, j * 7 + f, none⟩ x)) (.slice (some ⟨G, 0, none⟩) ps.length cap) (ps.set j p') := by
  obtain ⟨s1, s2, s3⟩ := hA.set hj rfl (w5 := wr) (f := f) (by omega) x
  obtain ⟨c1, c2, hGl, -⟩ := hA.cells hj
  have hP := (hA.it j hj hj).keep (Nat.le_refl _) (Nat.le_refl _) (w' := wr.setCell ⟨G, j * 7 + f, none⟩ x) (fun b _ _ _ hq => s3 b (fun e => hq (by rw [e]; rfl))) (fun b _ _ _ hq => hq)
  refine hA.turned hj p' _ (by rw [List.length_set]; exact c1) s1 s2 (fun b _ hb _ => s3 b hb) ?_
  obtain ⟨m1, m2, co, cc, ka, kc, na, nc, e, hm, ⟨h1, q1⟩, ⟨h2, q2⟩, h3, q3⟩ := hP
  rw [e]
  have e2 : [.string ps[j].nm, .int .i64 ps[j].args, .int .i64 ps[j].free, .bool ps[j].rest, .slice co ps[j].code.length cc, .slice ka ps[j].ks.length kc, .slice na ps[j].ns.length nc].set f x = [.string p'.nm, .int .i64 p'.args, .int .i64 p'.free, .bool p'.rest, .slice co p'.code.length cc, .slice ka p'.ks.length kc, .slice na p'.ns.length nc] := by
    rw [hp.1, hp.2.1, hp.2.2]
    have := congrArg (fun l : List Value => l ++ [.slice co ps[j].code.length cc, .slice ka ps[j].ks.length kc, .slice na ps[j].ns.length nc]) hx
    simp only [List.cons_append, List.nil_append] at this
    rw [← this, ← List.set_append_left _ _ (by simpa using hf)]
    rfl
  rw [e2]
  exact pcellN_mk (by rw [hp.1]; exact own_code h1) (by rw [hp.2.1]; exact h2.mono (fun _ _ h => h.dat)) (by rw [hp.2.2]; exact own_names h3)
theorem cI_app (l : List (Int × Int × Int)) (x : Int × Int × Int) : cI (l ++ [x]) = cI l ++ [.int .i64 x.1, .int .i64 x.2.1, .int .i64 x.2.2] := by
  unfold cI
  rw [List.flatMap_append]
  rfl
theorem cN_app (l : List ByteArray) (x : ByteArray) : cN (l ++ [x]) = cN l ++ [.string x] := by
  unfold cN
  rw [List.map_append]
  rfl
/-- An instruction is put behind a copy's code. -/
theorem CPO.code {N : Nat} {w : World} {ps : List (PC N)} {G cap : Nat} {xs : List Value} {wr w5 : World} {L : Nat → Nat} (hA : CPO w ps ps.length (.slice (some ⟨G, 0, none⟩) ps.length cap) xs wr L) {j : Nat} (hj : j < ps.length) {co ka na : Option Addr} {cc kc nc : Nat} (hs : seven xs j = [.string ps[j].nm, .int .i64 ps[j].args, .int .i64 ps[j].free, .bool ps[j].rest, .slice co ps[j].code.length cc, .slice ka ps[j].ks.length kc, .slice na ps[j].ns.length nc]) (x : Int × Int × Int) {g cap5 B : Nat}
    (hown : w5.ownsRow B 50 3 (.slice (some ⟨g, 0, none⟩) (ps[j].code.length + 1) cap5) (ps[j].code.length + 1) (cI ps[j].code ++ [.int .i64 x.1, .int .i64 x.2.1, .int .i64 x.2.2])) (hk : ∀ k, k < wr.heap.size → some k ≠ (Value.slice co ps[j].code.length cc).ownBlock → w5.heap[k]? = wr.heap[k]?) (hat : (Value.slice co ps[j].code.length cc).ownBlock = some g ∨ wr.heap.size ≤ g) :
    RowD (w5.setCell ⟨G, j * 7 + 4, none⟩ (.slice (some ⟨g, 0, none⟩) (ps[j].code.length + 1) cap5)) (PCellN (w5.setCell ⟨G, j * 7 + 4, none⟩ (.slice (some ⟨g, 0, none⟩) (ps[j].code.length + 1) cap5))) (.slice (some ⟨G, 0, none⟩) ps.length cap) (ps.set j { ps[j] with code := ps[j].code ++ [x] }) := by
  obtain ⟨c1, c2, hGl, -⟩ := hA.cells hj
  obtain ⟨m1, m2, co', cc', ka', kc', na', nc', e, hm, ⟨h1, q1⟩, ⟨h2, q2⟩, h3, q3⟩ := hA.it j hj hj
  rw [e] at hs
  injection hs with _ hs
  injection hs with _ hs
  injection hs with _ hs
  injection hs with _ hs
  injection hs with e4 hs
  injection hs with e5 hs
  injection hs with e6 _
  cases e4
  cases e5
  cases e6
  have hG := hk G hGl (fun h => (q1 G h.symm).2 rfl)
  obtain ⟨s1, s2, s3⟩ := hA.set hj hG (f := 4) (by omega) (.slice (some ⟨g, 0, none⟩) (ps[j].code.length + 1) cap5)
  have hkk : ∀ b, b < wr.heap.size → b ≠ G → ¬ (L j ≤ b ∧ b < m1) → (w5.setCell ⟨G, j * 7 + 4, none⟩ (.slice (some ⟨g, 0, none⟩) (ps[j].code.length + 1) cap5)).heap[b]? = wr.heap[b]? := fun b hb hne hr => by
    rw [s3 b hne, hk b hb (fun h => by have := q1 b h.symm; have := h1.lt b h.symm; omega)]
  refine hA.turned hj { ps[j] with code := ps[j].code ++ [x] } _ (by rw [List.length_set]; exact c1) s1 s2 (fun b hb hne hr => hkk b hb hne (by omega)) ?_
  rw [e]
  have hgG : g ≠ G := fun e => by
    subst e
    rcases hat with h | h
    · exact (q1 _ h).2 rfl
    · omega
  have hP := pcellN_mk (w := w5.setCell ⟨G, j * 7 + 4, none⟩ (.slice (some ⟨g, 0, none⟩) (ps[j].code.length + 1) cap5)) (p := { ps[j] with code := ps[j].code ++ [x] }) (co := some ⟨g, 0, none⟩) (cc := cap5) (ka := ka) (kc := kc) (na := na) (nc := nc) (own_code (B := B) (own_at (by rw [cI_app, List.length_append]; exact hown) (fun b hb => by
      have : b = g := by simpa [Value.ownBlock] using hb.symm
      subst this
      exact s3 b hgG))) ?_ (own_names (own_at h3 (fun b hb => by
      have := h3.lt b hb
      have hq := q3 b hb
      exact hkk b (by omega) (fun e => hq.2 (by rw [e]; rfl)) (by omega))))
  · simpa [List.set] using hP
  · exact h2.blk q2 (fun b hb hq => hkk b hb (fun e => hq.2.2 (by rw [e]; rfl)) (by omega)) (fun _ _ h => (h.keep (Q' := fun _ => True) (fun b hb hq => hkk b hb (fun e => hq.2.2 (by rw [e]; rfl)) (by omega)) (fun _ _ _ => trivial)).dat)
/-- A name is put behind a copy's names. -/
theorem CPO.names {N : Nat} {w : World} {ps : List (PC N)} {G cap : Nat} {xs : List Value} {wr w5 : World} {L : Nat → Nat} (hA : CPO w ps ps.length (.slice (some ⟨G, 0, none⟩) ps.length cap) xs wr L) {j : Nat} (hj : j < ps.length) {co ka na : Option Addr} {cc kc nc : Nat} (hs : seven xs j = [.string ps[j].nm, .int .i64 ps[j].args, .int .i64 ps[j].free, .bool ps[j].rest, .slice co ps[j].code.length cc, .slice ka ps[j].ks.length kc, .slice na ps[j].ns.length nc]) (x : ByteArray) {g cap5 B : Nat}
    (hown : w5.ownsRow B 9 1 (.slice (some ⟨g, 0, none⟩) (ps[j].ns.length + 1) cap5) (ps[j].ns.length + 1) (cN ps[j].ns ++ [.string x])) (hk : ∀ k, k < wr.heap.size → some k ≠ (Value.slice na ps[j].ns.length nc).ownBlock → w5.heap[k]? = wr.heap[k]?) (hat : (Value.slice na ps[j].ns.length nc).ownBlock = some g ∨ wr.heap.size ≤ g) :
    RowD (w5.setCell ⟨G, j * 7 + 6, none⟩ (.slice (some ⟨g, 0, none⟩) (ps[j].ns.length + 1) cap5)) (PCellN (w5.setCell ⟨G, j * 7 + 6, none⟩ (.slice (some ⟨g, 0, none⟩) (ps[j].ns.length + 1) cap5))) (.slice (some ⟨G, 0, none⟩) ps.length cap) (ps.set j { ps[j] with ns := ps[j].ns ++ [x] }) := by
  obtain ⟨c1, c2, hGl, -⟩ := hA.cells hj
  obtain ⟨m1, m2, co', cc', ka', kc', na', nc', e, hm, ⟨h1, q1⟩, ⟨h2, q2⟩, h3, q3⟩ := hA.it j hj hj
  rw [e] at hs
  injection hs with _ hs
  injection hs with _ hs
  injection hs with _ hs
  injection hs with _ hs
  injection hs with e4 hs
  injection hs with e5 hs
  injection hs with e6 _
  cases e4
  cases e5
  cases e6
  have hG := hk G hGl (fun h => (q3 G h.symm).2 rfl)
  obtain ⟨s1, s2, s3⟩ := hA.set hj hG (f := 6) (by omega) (.slice (some ⟨g, 0, none⟩) (ps[j].ns.length + 1) cap5)
  have hkk : ∀ b, b < wr.heap.size → b ≠ G → ¬ (m2 ≤ b ∧ b < L (j + 1)) → (w5.setCell ⟨G, j * 7 + 6, none⟩ (.slice (some ⟨g, 0, none⟩) (ps[j].ns.length + 1) cap5)).heap[b]? = wr.heap[b]? := fun b hb hne hr => by
    rw [s3 b hne, hk b hb (fun h => by have := q3 b h.symm; have := h3.lt b h.symm; omega)]
  refine hA.turned hj { ps[j] with ns := ps[j].ns ++ [x] } _ (by rw [List.length_set]; exact c1) s1 s2 (fun b hb hne hr => hkk b hb hne (by omega)) ?_
  rw [e]
  have hgG : g ≠ G := fun e => by
    subst e
    rcases hat with h | h
    · exact (q3 _ h).2 rfl
    · omega
  have hP := pcellN_mk (w := w5.setCell ⟨G, j * 7 + 6, none⟩ (.slice (some ⟨g, 0, none⟩) (ps[j].ns.length + 1) cap5)) (p := { ps[j] with ns := ps[j].ns ++ [x] }) (co := co) (cc := cc) (ka := ka) (kc := kc) (na := some ⟨g, 0, none⟩) (nc := cap5) (own_code (own_at h1 (fun b hb => by
      have := h1.lt b hb
      have hq := q1 b hb
      exact hkk b (by omega) (fun e => hq.2 (by rw [e]; rfl)) (by omega)))) ?_ (own_names (B := B) (own_at (by rw [cN_app, List.length_append]; exact hown) (fun b hb => by
      have : b = g := by simpa [Value.ownBlock] using hb.symm
      subst this
      exact s3 b hgG)))
  · simpa [List.set] using hP
  · exact h2.blk q2 (fun b hb hq => hkk b hb (fun e => hq.2.2 (by rw [e]; rfl)) (by omega)) (fun _ _ h => (h.keep (Q' := fun _ => True) (fun b hb hq => hkk b hb (fun e => hq.2.2 (by rw [e]; rfl)) (by omega)) (fun _ _ _ => trivial)).dat)

end Go.Proofs.Ytilcigjhogcjkaa
