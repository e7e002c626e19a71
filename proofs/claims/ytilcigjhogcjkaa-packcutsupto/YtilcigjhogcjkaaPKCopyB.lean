/-
  What is proved here: tandemlaw00.CopyProtos makes protos in new memory, with all that is in them.
-/
import Derived.Test.YtilcigjhogcjkaaPKCopyA
namespace Go.Proofs.Ytilcigjhogcjkaa
open Go Go.RowKit

/-- A proto as it came in: nil slices have no room. -/
def PCellN {N : Nat} (w : World) (p : PC N) (cs : List Value) : Prop := PCell w p cs ∧ (∀ n cc, cs[4]? = some (.slice none n cc) → cc = 0) ∧ ∀ n nc, cs[6]? = some (.slice none n nc) → nc = 0
theorem proto_cellsN {N : Nat} {w0 W : World} {ps : List (PC N)} {ao : Option Addr} {n cap : Nat} (hr : RowD w0 (PCellN w0) (.slice ao n cap) ps) (u : Up w0 W) {i : Nat} (hi : i < ps.length) :
    ∃ b off, ao = some ⟨b, off, none⟩ ∧ ∃ co cc ka kc na nc, (CodeL w0 co cc ps[i].code ∧ RowD w0 (DatC w0 N) (.slice ka ps[i].ks.length kc) ps[i].ks ∧ NameL w0 na nc ps[i].ns) ∧ (co = none → cc = 0) ∧ (na = none → nc = 0) ∧
      W.cell? ⟨b, off + i * 7, none⟩ = some (.string ps[i].nm) ∧ W.cell? ⟨b, off + i * 7 + 1, none⟩ = some (.int .i64 ps[i].args) ∧ W.cell? ⟨b, off + i * 7 + 2, none⟩ = some (.int .i64 ps[i].free) ∧ W.cell? ⟨b, off + i * 7 + 3, none⟩ = some (.bool ps[i].rest) ∧ W.cell? ⟨b, off + i * 7 + 4, none⟩ = some (.slice co ps[i].code.length cc) ∧ W.cell? ⟨b, off + i * 7 + 5, none⟩ = some (.slice ka ps[i].ks.length kc) ∧ W.cell? ⟨b, off + i * 7 + 6, none⟩ = some (.slice na ps[i].ns.length nc) := by
  obtain ⟨-, b, off, rfl, cs, k1, k2, k3, k4, k5⟩ := hr.get hi
  obtain ⟨co, cc, ka, kc, na, nc, e, h1, h2, h3⟩ := k3
  subst e
  have hb : b < w0.heap.size := World.block_lt_of_cell? w0 _ (k2 0 (by decide))
  have key : ∀ j, j < 7 → W.cell? ⟨b, off + i * 7 + j, none⟩ = _ := fun j hj => (u.cell (p := ⟨b, off + i * 7 + j, none⟩) hb).trans (k2 j hj)
  exact ⟨b, off, rfl, co, cc, ka, kc, na, nc, ⟨h1, h2, h3⟩, (fun e => k4 _ _ (by rw [e]; rfl)), (fun e => k5 _ _ (by rw [e]; rfl)), key 0 (by decide), key 1 (by decide), key 2 (by decide), key 3 (by decide), key 4 (by decide), key 5 (by decide), key 6 (by decide)⟩
/-- append of a slice that lies there to nil: a row of its own. -/
theorem wpList_cpy {w : World} {ops : Array Oper} {rest : List Oper} {o : Oper} {a : Act} {Q : Exit → Act → World → Prop} (hg : o.guard = none) (s x : Operand) (t : TypeId) (ho : o.op = .call { callee := .builtin .append, args := #[s, x], argTypes := #[t, t] })
    (e : TypeId) (i : TypeInfo) (z : Value) (size bytes : Nat) (ht : Try.prog.underlying t = some (.slice e)) (hi : Try.prog.info? e = some i) (hz : i.zero = some z) (hsize : i.size = size) (hby : i.bytes = bytes) (hzs : z.cells.size = size) (hsz : 0 < size)
    (hs : a.eval s = .slice none 0 0) (ao : Option Addr) (m c : Nat) (hx : a.eval x = .slice ao m c) (ha : ao = none → m = 0 ∧ c = 0) (news : List Value) (hl : news.length = m * size) (hnews : ∀ ad, ao = some ad → ∀ j u, news[j]? = some u → w.cell? (ad.add j) = some u) (h1 : ∀ u ∈ news, u.oneCell' = true) (h63 : m ≤ maxLen) (hbytes : m * bytes ≤ 140737488355328)
    (hK : ∀ v' w', w'.ownsRow w.heap.size e size v' m news → Fr (fun _ => False) w w' → wpList Try.prog ops Q rest (a.put o.dst v') w') : wpList Try.prog ops Q (o :: rest) a w := by
  have hnil := World.ownsRow_nil w w.heap.size e size
  cases ao with
  | none =>
    obtain ⟨rfl, rfl⟩ := ha rfl
    have hn0 : news = [] := List.length_eq_zero_iff.1 (by omega)
    subst hn0
    refine wpList_append_own_none hg s x t ho w.heap.size e i size ht hi _ _ _ hs hnil hx ?_
    exact hK _ _ hnil (Fr.refl _ _)
  | some ad =>
    refine wpList_append_own _ hg s x t ho w.heap.size e i z size bytes ht hi hz hsize hby hzs hsz _ _ _ hs hnil ad m c news hx hl (hnews ad rfl) h1 (by rw [Nat.zero_add]; exact h63) (by rw [Nat.zero_add]; exact hbytes) (Nat.le_refl _) ?_
    intro v' w' hown hgrow _
    simp only [Nat.zero_add, List.nil_append] at hown
    exact hK v' w' hown ((Fr.refl _ _).grow hgrow (fun k _ e => by cases e))
theorem own_shape {w : World} {B : Nat} {e : TypeId} {size : Nat} {v : Value} {n : Nat} {xs : List Value} (h : w.ownsRow B e size v n xs) : ∃ ao cap, v = .slice ao n cap ∧ n ≤ cap ∧ cap ≤ 9223372036854775807 ∧ (n = 0 ∨ ∃ g, ao = some ⟨g, 0, none⟩ ∧ B ≤ g ∧ g < w.heap.size ∧ ∀ j u, xs[j]? = some u → w.cell? ⟨g, j, none⟩ = some u) := by
  rcases h.2 with ⟨e, e0⟩ | ⟨g, cap, cur, e, h1, h2, h3, h4, h5, h6⟩
  · exact ⟨none, 0, by rw [e, e0], by omega, by omega, .inl e0⟩
  · refine ⟨_, _, e, h3, by unfold maxLen at h4; omega, .inr ⟨g, rfl, h1, (Array.getElem?_eq_some_iff.1 h2).1, fun j u hj => ?_⟩⟩
    rw [cell_of_row w g j cur _ _ h2, ← Array.getElem?_toList]
    rw [← h6, List.getElem?_take] at hj
    split at hj
    · exact hj
    · cases hj
theorem codeL_of {w : World} {B : Nat} {co : Option Addr} {cc : Nat} {l : List (Int × Int × Int)} (h1 : l.length ≤ cc) (h2 : cc ≤ 9223372036854775807) (h : l.length = 0 ∨ ∃ g, co = some ⟨g, 0, none⟩ ∧ B ≤ g ∧ g < w.heap.size ∧ ∀ j u, (cI l)[j]? = some u → w.cell? ⟨g, j, none⟩ = some u) : CodeL w co cc l ∧ AQ (fun b => B ≤ b) co l.length := by
  rcases h with e | ⟨g, ea, hB, hg, hc⟩
  · exact ⟨⟨h1, h2, .inl e⟩, .inl e⟩
  · refine ⟨⟨h1, h2, .inr ⟨g, 0, ea, fun j hj => ?_⟩⟩, .inr ⟨_, ea, hB⟩⟩
    obtain ⟨g0, g1, g2⟩ := cI_get l j hj
    rw [Nat.zero_add]
    exact ⟨hc _ _ g0, hc _ _ g1, hc _ _ g2⟩
theorem nameL_of {w : World} {B : Nat} {na : Option Addr} {nc : Nat} {l : List ByteArray} (h1 : l.length ≤ nc) (h2 : nc ≤ 9223372036854775807) (h : l.length = 0 ∨ ∃ g, na = some ⟨g, 0, none⟩ ∧ B ≤ g ∧ g < w.heap.size ∧ ∀ j u, (cN l)[j]? = some u → w.cell? ⟨g, j, none⟩ = some u) : NameL w na nc l ∧ AQ (fun b => B ≤ b) na l.length := by
  rcases h with e | ⟨g, ea, hB, hg, hc⟩
  · exact ⟨⟨h1, h2, .inl e⟩, .inl e⟩
  · refine ⟨⟨h1, h2, .inr ⟨g, 0, ea, fun j hj => ?_⟩⟩, .inr ⟨_, ea, hB⟩⟩
    rw [Nat.zero_add]
    exact hc j _ (by simp [cN, hj])

end Go.Proofs.Ytilcigjhogcjkaa
