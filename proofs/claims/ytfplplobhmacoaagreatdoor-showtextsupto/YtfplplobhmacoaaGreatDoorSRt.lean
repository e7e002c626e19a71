/-
  What is proved here: bytes that are put together in new memory.
-/
import Derived.Test.YtfplplobhmacoaaGreatDoorSAwake
namespace Go.Proofs.YtfplplobhmacoaaGreatDoor
open Go Go.RowKit

/-- Bytes that are put together in new memory. -/
structure RT (w : World) (v : Value) (S : List UInt8) (wr : World) : Prop where
  up : Up w wr
  own : wr.ownsRow w.heap.size 5 1 v S.length (Lib.byteCells S)

theorem RT.shape {w : World} {v : Value} {S : List UInt8} {wr : World} (h : RT w v S wr) : ∃ ao cap, v = .slice ao S.length cap := by
  rcases h.own.2 with ⟨e, e0⟩ | ⟨g, cap, cur, e, _⟩
  · exact ⟨none, 0, by rw [e, e0]⟩
  · exact ⟨_, _, e⟩
theorem RT.more {w : World} {v : Value} {S : List UInt8} {wr w' : World} (h : RT w v S wr) (u : Up wr w') : RT w v S w' := ⟨h.up.tr u, ownsRow_blk h.own (fun _g _c hg => u.old hg)⟩
/-- Some bytes more. -/
theorem RT.snoc {w : World} {v v' : Value} {S l : List UInt8} {W w9 : World} {n : Nat} (h : RT w v S W) (hown : w9.ownsRow w.heap.size 5 1 v' n (Lib.byteCells S ++ Lib.byteCells l)) (hn : n = S.length + l.length) (hg : W.grownBy w9 v.ownBlock) : RT w v' (S ++ l) w9 := by
  refine ⟨h.up.grown hg h.up.size (fun k hk => (h.own.lt k hk).1), ?_⟩
  rw [List.length_append, ← hn, Lib.byteCells_append]
  exact hown
theorem bytes_at (w : World) (l : List UInt8) : ∀ j u, (Lib.byteCells l)[j]? = some u → (w.alloc (.cells (Lib.byteCells l).toArray 5)).cell? ((⟨w.heap.size, 0, none⟩ : Addr).add j) = some u := by
  intro j u hj
  rw [Addr.add_lit, Nat.zero_add, cell_of_row _ _ j _ _ _ (heap_alloc_new w _)]
  simpa using hj
theorem bytes_one (l : List UInt8) : ∀ u ∈ Lib.byteCells l, u.oneCell' = true := by
  intro u hu
  simp [Lib.byteCells] at hu
  obtain ⟨a, -, rfl⟩ := hu
  rfl

/-- append of new bytes, as a step. -/
theorem rt_app {w W : World} {v : Value} {S l : List UInt8} {cells : List Value} {ops : Array Oper} {rest : List Oper} {o : Oper} {a : Act} {Q : Exit → Act → World → Prop} (hRT : RT w v S W) (hcs : cells = Lib.byteCells l) (hl : 0 < l.length) (hS : S.length + l.length ≤ 1000000000) (hgd : o.guard = none) (s x : Operand) (ho : o.op = .call { callee := .builtin .append, args := #[s, x], argTypes := #[37, 37] })
    (hs : a.eval s = v) (c : Nat) (hx : a.eval x = .slice (some ⟨W.heap.size, 0, none⟩) l.length c)
    (h : ∀ g cap w', RT w (.slice (some ⟨g, 0, none⟩) (S.length + l.length) cap) (S ++ l) w' → wpList Tryz.prog ops Q rest (a.put o.dst (.slice (some ⟨g, 0, none⟩) (S.length + l.length) cap)) w') : wpList Tryz.prog ops Q (o :: rest) a (W.alloc (.cells cells.toArray 5)) := by
  subst hcs
  obtain ⟨i0, hi, hz0, hz1, hz2⟩ := info_parts infoU8
  have hA := hRT.more (up_alloc W (.cells (Lib.byteCells l).toArray 5))
  refine wpList_append_lies _ hgd s x 37 ho w.heap.size 5 i0 (.int .u8 0) 1 1 Tryz.underlying37 hi hz0 hz1 hz2 rfl (by decide) v S.length _ hs hA.own ⟨W.heap.size, 0, none⟩ l.length c (Lib.byteCells l) hx (by rw [Lib.byteCells_length]; omega) (bytes_at W l) (bytes_one l) hl (by unfold maxLen; omega) (by omega) hA.up.size (W.heap.size + 1) (by simp) ?_
  intro g cap w' h1 h2 _ _
  exact h g cap w' (hA.snoc h1 rfl h2)
/-- The same, the length said otherwise. -/
theorem rt_app4 {w W : World} {ao : Option Addr} {m cap : Nat} {S l : List UInt8} {cells : List Value} {ops : Array Oper} {rest : List Oper} {o : Oper} {a : Act} {Q : Exit → Act → World → Prop} (hRT : RT w (.slice ao m cap) S W) (hm : m = S.length) (hcs : cells = Lib.byteCells l) (hl : 0 < l.length) (hS : S.length + l.length ≤ 1000000000) (hgd : o.guard = none) (s x : Operand) (ho : o.op = .call { callee := .builtin .append, args := #[s, x], argTypes := #[37, 37] })
    (hs : a.eval s = .slice ao m cap) (c : Nat) (hx : a.eval x = .slice (some ⟨W.heap.size, 0, none⟩) l.length c)
    (h : ∀ g cap w', RT w (.slice (some ⟨g, 0, none⟩) (m + l.length) cap) (S ++ l) w' → wpList Tryz.prog ops Q rest (a.put o.dst (.slice (some ⟨g, 0, none⟩) (m + l.length) cap)) w') : wpList Tryz.prog ops Q (o :: rest) a (W.alloc (.cells cells.toArray 5)) := by
  subst hm
  exact rt_app hRT hcs hl hS hgd s x ho hs c hx h
/-- append of a text, as a step. -/
theorem rt_appS {w W : World} {v : Value} {S : List UInt8} {t : ByteArray} {ops : Array Oper} {rest : List Oper} {o : Oper} {a : Act} {Q : Exit → Act → World → Prop} (hRT : RT w v S W) (hS : S.length + t.size ≤ 1000000000) (hgd : o.guard = none) (s x : Operand) (ho : o.op = .call { callee := .builtin .append, args := #[s, x], argTypes := #[37, 9] })
    (hs : a.eval s = v) (hx : a.eval x = .string t)
    (h : ∀ v' w', RT w v' (S ++ t.data.toList) w' → wpList Tryz.prog ops Q rest (a.put o.dst v') w') : wpList Tryz.prog ops Q (o :: rest) a W := by
  obtain ⟨i0, hi, hz0, hz1, hz2⟩ := info_parts infoU8
  refine Lib.wpList_append_own_string _ hgd s x 37 9 ho w.heap.size 5 i0 Tryz.underlying37 Tryz.underlying9 hi hz0 hz1 hz2 _ _ _ hs hRT.own t hx (by unfold maxLen; omega) (by omega) hRT.up.size ?_
  intro v' w' h1 h2 _
  exact h v' w' (hRT.snoc (by rw [← Lib.strCells_eq]; exact h1) (by rw [bytes_len]) h2)

theorem RT.conv {w : World} {v : Value} {S : List UInt8} {W : World} (h : RT w v S W) : (convert 37 9 v).run Tryz.prog W = .ok (.string ⟨S.toArray⟩) W := by
  rcases h.own.2 with ⟨rfl, e0⟩ | ⟨g, cap, cur, rfl, _, h2, h3, _, h5, h6⟩
  · have hS : S = [] := List.eq_nil_of_length_eq_zero e0
    subst hS
    exact run_convert_bytes_nil W 37 5 Tryz.underlying37 Tryz.underlying5 0 0 9 Tryz.underlying9
  · exact run_convert_bytes_back (P := Tryz.prog) W 37 9 5 ⟨g, 0, none⟩ cap S Tryz.underlying37 Tryz.underlying5 Tryz.underlying9 (fun j hj => by
      have := h.own.cells (g := g) rfl j (.int .u8 S[j].toNat) (by simp [Lib.byteCells, hj])
      exact this)

end Go.Proofs.YtfplplobhmacoaaGreatDoor
