/-
  What is proved here: what tandemlaw00.CopyProtos has made when so many protos are copied; the step from one to the next; no walk.
-/
import Derived.Test.YtmogglmofbbjlaaJC
import Derived.Test.YtmogglmofbbjlaaKProg
import Derived.Deep.Slices
namespace Go.Proofs.Ytmogglmofbbjlaa
open Go Go.RowKit

theorem Fr.upw {w w' : World} (h : Fr (fun _ => False) w w') : Up w w' := ⟨h.os, h.tape, h.output, h.size, fun k hk => h.block k hk (fun e => e)⟩
theorem Up.frw {w w' : World} (h : Up w w') : Fr (fun _ => False) w w' := ⟨h.os, h.tape, h.output, h.size, fun k hk _ => h.block k hk⟩
theorem infoPr : (Try.prog.info? 45).map (fun i => (i.zero, i.size, i.bytes)) = some (some (.agg #[.string ⟨#[]⟩, .int .i64 0, .int .i64 0, .bool false, .slice none 0 0, .slice none 0 0, .slice none 0 0]), 7, 112) := by kernel_rfl
theorem infoIn : (Try.prog.info? 47).map (fun i => (i.zero, i.size, i.bytes)) = some (some (.agg #[.int .i64 0, .int .i64 0, .int .i64 0]), 3, 24) := by kernel_rfl
theorem infoSt : (Try.prog.info? 9).map (fun i => (i.zero, i.size, i.bytes)) = some (some (.string ⟨#[]⟩), 1, 16) := by kernel_rfl

/-- append of a slice that lies there to nil: a row of its own. -/
theorem wpList_cpy {w : World} {ops : Array Oper} {rest : List Oper} {o : Oper} {a : Act} {Q : Exit → Act → World → Prop} (hg : o.guard = none) (s x : Operand) (t : TypeId) (ho : o.op = .call { callee := .builtin .append, args := #[s, x], argTypes := #[t, t] })
    (e : TypeId) (i : TypeInfo) (z : Value) (size bytes : Nat) (ht : Try.prog.underlying t = some (.slice e)) (hi : Try.prog.info? e = some i) (hz : i.zero = some z) (hsize : i.size = size) (hby : i.bytes = bytes) (hzs : z.cells.size = size) (hsz : 0 < size)
    (hs : a.eval s = .slice none 0 0) (ao : Option Addr) (m c : Nat) (hx : a.eval x = .slice ao m c) (ha : ao = none → m = 0 ∧ c = 0) (news : List Value) (hl : news.length = m * size) (hnews : ∀ ad, ao = some ad → ∀ j u, news[j]? = some u → w.cell? (ad.add j) = some u) (h1 : ∀ u ∈ news, u.oneCell' = true) (h63 : m ≤ maxLen) (hbytes : m * bytes ≤ 140737488355328)
    (hK : ∀ v' w', w'.ownsRow w.heap.size e size v' m news → Fr (fun _ => False) w w' → wpList Try.prog ops Q rest (a.put o.dst v') w') : wpList Try.prog ops Q (o :: rest) a w := by
  have hnil := World.ownsRow_nil w w.heap.size e size
  cases ao with
  | none =>
    obtain ⟨rfl, rfl⟩ := ha rfl
    have hn0 : news = [] := List.length_eq_zero_iff.1 (by omega)
    subst hn0
    refine wpList_append_own_none hg s x t ho w.heap.size e i size ht hi _ _ _ hs hnil hx ?_
    exact hK _ _ hnil (Fr.refl _ _)
  | some ad =>
    refine wpList_append_own _ hg s x t ho w.heap.size e i z size bytes ht hi hz hsize hby hzs hsz _ _ _ hs hnil ad m c news hx hl (hnews ad rfl) h1 (by rw [Nat.zero_add]; exact h63) (by rw [Nat.zero_add]; exact hbytes) (Nat.le_refl _) ?_
    intro v' w' hown hgrow _
    simp only [Nat.zero_add, List.nil_append] at hown
    exact hK v' w' hown ((Fr.refl _ _).grow hgrow (fun k _ e => by cases e))
theorem own_shape {w : World} {B : Nat} {e : TypeId} {size : Nat} {v : Value} {n : Nat} {xs : List Value} (h : w.ownsRow B e size v n xs) : ∃ ao cap, v = .slice ao n cap ∧ n ≤ cap ∧ cap ≤ maxLen := by
  rcases h.2 with ⟨e, e0⟩ | ⟨g, cap, cur, e, _, _, h3, h4, _⟩
  · exact ⟨none, 0, by rw [e, e0], by omega, by unfold maxLen; omega⟩
  · exact ⟨_, _, e, h3, h4⟩

/-- The cells of instructions. -/
def insL (p : PR) : List Value := (List.range p.len).flatMap fun j => [.int .i64 (p.op j), .int .i64 (p.a j), .int .i64 (p.b j)]
theorem flat3_len {α : Type} (f g h : Nat → α) : ∀ n, ((List.range n).flatMap fun j => [f j, g j, h j]).length = n * 3
  | 0 => rfl
  | n + 1 => by rw [List.range_succ, List.flatMap_append, List.length_append, flat3_len f g h n]; simp; omega
theorem flat3_get {α : Type} (f g h : Nat → α) : ∀ (n j : Nat), j < n → ((List.range n).flatMap fun j => [f j, g j, h j])[j * 3]? = some (f j) ∧ ((List.range n).flatMap fun j => [f j, g j, h j])[j * 3 + 1]? = some (g j) ∧ ((List.range n).flatMap fun j => [f j, g j, h j])[j * 3 + 2]? = some (h j)
  | 0, j, hj => by omega
  | n + 1, j, hj => by
    rw [List.range_succ, List.flatMap_append]
    have hl := flat3_len f g h n
    by_cases e : j = n
    · subst e
      refine ⟨?_, ?_, ?_⟩
      · rw [List.getElem?_append_right (by omega), hl]; simp
      · rw [List.getElem?_append_right (by omega), hl, show j * 3 + 1 - j * 3 = 1 from by omega]; simp
      · rw [List.getElem?_append_right (by omega), hl, show j * 3 + 2 - j * 3 = 2 from by omega]; simp
    · obtain ⟨h0, h1, h2⟩ := flat3_get f g h n j (by omega)
      refine ⟨?_, ?_, ?_⟩
      · rw [List.getElem?_append_left (by omega)]; exact h0
      · rw [List.getElem?_append_left (by omega)]; exact h1
      · rw [List.getElem?_append_left (by omega)]; exact h2
theorem insL_len (p : PR) : (insL p).length = p.len * 3 := flat3_len _ _ _ _
theorem insL_one (p : PR) : ∀ u ∈ insL p, u.oneCell' = true := fun u hu => by
  simp only [insL, List.mem_flatMap] at hu
  obtain ⟨j, -, hj⟩ := hu
  simp at hj
  rcases hj with rfl | rfl | rfl <;> rfl
/-- The instructions as they lie there are these cells. -/
theorem CodeAt.news {w : World} {co : Option Addr} {p : PR} (h : CodeAt w co p) : ∀ ad, co = some ad → ∀ j u, (insL p)[j]? = some u → w.cell? (ad.add j) = some u := fun ad ea j u hj => by
  have hlt : j < p.len * 3 := by
    rw [← insL_len]
    exact (List.getElem?_eq_some_iff.1 hj).1
  rcases h with e | ⟨g, off, e, hc⟩
  · rw [e] at hlt; omega
  · rw [e] at ea
    cases ea
    obtain ⟨c0, c1, c2⟩ := hc (j / 3) (by omega)
    obtain ⟨g0, g1, g2⟩ := flat3_get (fun j => Value.int .i64 (p.op j)) (fun j => Value.int .i64 (p.a j)) (fun j => Value.int .i64 (p.b j)) p.len (j / 3) (by omega)
    rw [Addr.add_lit]
    have hm : j % 3 = 0 ∨ j % 3 = 1 ∨ j % 3 = 2 := by omega
    rcases hm with hm | hm | hm
    · have ej : j = j / 3 * 3 := by omega
      rw [ej] at hj ⊢
      unfold insL at hj
      rw [g0] at hj
      cases hj
      exact c0
    · have ej : j = j / 3 * 3 + 1 := by omega
      rw [ej] at hj ⊢
      unfold insL at hj
      rw [g1] at hj
      cases hj
      exact c1
    · have ej : j = j / 3 * 3 + 2 := by omega
      rw [ej] at hj ⊢
      unfold insL at hj
      rw [g2] at hj
      cases hj
      exact c2

/-- Instructions in a block of the call's own, that is none of the row's. -/
def CodeX (w : World) (B : Nat) (r : Option Nat) (co : Option Addr) (p : PR) : Prop :=
  p.len = 0 ∨ ∃ g, co = some ⟨g, 0, none⟩ ∧ B ≤ g ∧ g < w.heap.size ∧ r ≠ some g ∧ ∀ j, j < p.len → w.cell? ⟨g, j * 3, none⟩ = some (.int .i64 (p.op j)) ∧ w.cell? ⟨g, j * 3 + 1, none⟩ = some (.int .i64 (p.a j)) ∧ w.cell? ⟨g, j * 3 + 2, none⟩ = some (.int .i64 (p.b j))
theorem CodeX.of {w : World} {B : Nat} {co : Option Addr} {cc : Nat} {p : PR} (h : w.ownsRow B 47 3 (.slice co p.len cc) p.len (insL p)) : CodeX w B none co p := by
  rcases h.2 with ⟨e, e0⟩ | ⟨g, cap, cur, e, h1, h2, h3, h4, h5, h6⟩
  · exact .inl e0
  · cases e
    refine .inr ⟨g, rfl, h1, (Array.getElem?_eq_some_iff.1 h2).1, (fun e => by cases e), fun j hj => ?_⟩
    obtain ⟨g0, g1, g2⟩ := flat3_get (fun j => Value.int .i64 (p.op j)) (fun j => Value.int .i64 (p.a j)) (fun j => Value.int .i64 (p.b j)) p.len j hj
    have hc : ∀ x u, x < p.len * 3 → (insL p)[x]? = some u → w.cell? ⟨g, x, none⟩ = some u := fun x u hx hu => by
      rw [cell_of_row w g x cur _ _ h2, ← Array.getElem?_toList]
      rw [← h6, List.getElem?_take, if_pos hx] at hu
      exact hu
    exact ⟨hc _ _ (by omega) g0, hc _ _ (by omega) g1, hc _ _ (by omega) g2⟩
theorem CodeX.keep {w w' : World} {B : Nat} {r r' : Option Nat} {co : Option Addr} {p : PR} (h : CodeX w B r co p) (hs : w.heap.size ≤ w'.heap.size) (hb : ∀ g, B ≤ g → g < w.heap.size → r ≠ some g → w'.heap[g]? = w.heap[g]?) (hr : ∀ g, B ≤ g → g < w.heap.size → r ≠ some g → r' ≠ some g) (B' : Nat) (hB : B' ≤ B) : CodeX w' B' r' co p := by
  rcases h with e | ⟨g, e, h1, h2, h3, hc⟩
  · exact .inl e
  · have hk := hb g h1 h2 h3
    exact .inr ⟨g, e, by omega, by omega, hr g h1 h2 h3, fun j hj => ⟨(World.cell?_of_block hk).trans (hc j hj).1, (World.cell?_of_block hk).trans (hc j hj).2.1, (World.cell?_of_block hk).trans (hc j hj).2.2⟩⟩

/-- The cells of a proto. -/
def prL (p : PR) (q : Hd) : List Value := [.string q.nm, .int .i64 p.args, .int .i64 p.free, .bool p.rest, .slice q.co p.len q.cc, .slice q.ka p.nc q.kc, .slice q.na p.nn q.nc]
/-- k protos are copied. -/
structure CP (w : World) (P : Nat → PR) (k : Nat) (v : Value) (xs : List Value) (wr : World) : Prop where
  fr : Fr (fun _ => False) w wr
  own : wr.ownsRow w.heap.size 45 7 v k xs
  it : ∀ j, j < k → ∃ q : Hd, seven xs j = prL (P j) q ∧ PB (P j) q ∧ CodeX wr w.heap.size v.ownBlock q.co (P j)
theorem CP.next {w : World} {P : Nat → PR} {k : Nat} {v : Value} {xs : List Value} {wr w2 w9 : World} {q : Hd} {o : Obj} {g cap : Nat} (hA : CP w P k v xs wr) (F2 : Fr (fun _ => False) wr w2) (hpb : PB (P k) q) (hq : CodeX w2 wr.heap.size none q.co (P k))
    (hown : w9.ownsRow w.heap.size 45 7 (.slice (some ⟨g, 0, none⟩) (k + 1) cap) (k + 1) (xs ++ prL (P k) q)) (hgrow : (w2.alloc o).grownBy w9 v.ownBlock) (hat : v.ownBlock = some g ∨ g = w2.heap.size + 1) :
    CP w P (k + 1) (.slice (some ⟨g, 0, none⟩) (k + 1) cap) (xs ++ prL (P k) q) w9 := by
  have hlen := hA.own.1
  have hs2 := F2.size
  have hs0 := hA.fr.size
  have vlt : ∀ b, v.ownBlock = some b → w.heap.size ≤ b ∧ b < wr.heap.size := fun b hb => hA.own.lt b hb
  have hob : (Value.slice (some (⟨g, 0, none⟩ : Addr)) (k + 1) cap).ownBlock = some g := rfl
  have hs9 : w2.heap.size ≤ w9.heap.size := by have := hgrow.size; simp at this; omega
  refine ⟨?_, hown, fun j hj => ?_⟩
  · exact (hA.fr.trans (F2.alloc o) (fun _ _ e => e)).grow hgrow (fun b hb e => by have := (vlt b e).1; omega)
  · by_cases e : j = k
    · subst e
      refine ⟨q, seven_new hlen rfl, hpb, ?_⟩
      refine hq.keep hs9 (fun b hb hlt _ => ?_) (fun b hb hlt _ => ?_) _ hs0
      · rw [hgrow.block b (by simp; omega) (fun e => by have := (vlt b e.symm).2; omega)]
        exact heap_alloc_old _ _ hlt
      · rw [hob]
        intro e'
        have e' : g = b := by simpa using e'
        rcases hat with h1 | h1
        · have := (vlt g h1).2; omega
        · omega
    · obtain ⟨q', h1, h2, h3⟩ := hA.it j (by omega)
      refine ⟨q', by rw [seven_old hlen (by omega)]; exact h1, h2, ?_⟩
      refine h3.keep (by omega) (fun b hb hlt hr => ?_) (fun b hb hlt hr => ?_) _ (Nat.le_refl _)
      · rw [hgrow.block b (by simp; omega) (fun e => hr e.symm), heap_alloc_old _ _ (by omega)]
        exact F2.block b hlt (fun e => e)
      · rw [hob]
        intro e'
        have e' : g = b := by simpa using e'
        rcases hat with h1 | h1
        · exact hr (by rw [h1, e'])
        · omega
theorem CodeX.code {w : World} {B : Nat} {r : Option Nat} {co : Option Addr} {p : PR} (h : CodeX w B r co p) : CodeAt w co p := by
  rcases h with e | ⟨g, e, h1, h2, h3, hc⟩
  · exact .inl e
  · exact .inr ⟨g, 0, e, fun j hj => by rw [Nat.zero_add]; exact hc j hj⟩
theorem CP.fin {w : World} {P : Nat → PR} {np : Nat} {v : Value} {xs : List Value} {wr : World} (hA : CP w P np v xs wr) : ∃ so sc Q, v = .slice so np sc ∧ np ≤ sc ∧ sc ≤ 9223372036854775807 ∧ ProtosAt wr so np P Q ∧ Fr (fun _ => False) w wr := by
  have hlen := hA.own.1
  rcases hA.own.2 with ⟨e, h0⟩ | ⟨g, cap, cur, e, h1, h2, h3, h4, h5, h6⟩
  · exact ⟨none, 0, fun _ => ⟨⟨#[]⟩, none, 0, none, 0, none, 0⟩, by rw [e, h0], by omega, by omega, .inl h0, hA.fr⟩
  · haveI : Inhabited Hd := ⟨⟨⟨#[]⟩, none, 0, none, 0, none, 0⟩⟩
    obtain ⟨Q, hQ⟩ := Go.Deep.choose_lt hA.it
    refine ⟨some ⟨g, 0, none⟩, cap, Q, e, h3, by unfold maxLen at h4; omega, .inr ⟨g, 0, rfl, fun i hi => ?_⟩, hA.fr⟩
    obtain ⟨q1, q2, q3⟩ := hQ i hi
    have hc : ∀ x u, x < 7 → (prL (P i) (Q i))[x]? = some u → wr.cell? ⟨g, 0 + i * 7 + x, none⟩ = some u := fun x u hx hu => by
      rw [Nat.zero_add, cell_of_row wr g _ cur _ _ h2, ← Array.getElem?_toList]
      rw [← q1] at hu
      unfold seven at hu
      rw [List.getElem?_take, if_pos hx, List.getElem?_drop] at hu
      rw [← h6, List.getElem?_take, if_pos (by omega)] at hu
      exact hu
    exact ⟨⟨hc 0 _ (by omega) rfl, hc 1 _ (by omega) rfl, hc 2 _ (by omega) rfl, hc 3 _ (by omega) rfl, hc 4 _ (by omega) rfl, hc 5 _ (by omega) rfl, hc 6 _ (by omega) rfl⟩, q3.code, q2⟩

end Go.Proofs.Ytmogglmofbbjlaa
