/-
  What is proved here: rows of data that grow while a reader goes on; no walk.
-/
import Derived.Test.YteipogfolnlblaaDoorWXM
namespace Go.Proofs.YteipogfolnlblaaDoor
open Go Go.RowKit
theorem infoDr : (Tryd.prog.info? 31).map (fun i => (i.zero, i.size, i.bytes)) = some (some (.agg #[.int .i64 0, .int .i64 0, .bool false, .slice none 0 0, .string ⟨#[]⟩, .slice none 0 0, .slice none 0 0]), 7, 112) := by kernel_rfl

def sv (xs : List Value) (j : Nat) : List Value := (xs.drop (j * 7)).take 7

theorem sv_old {xs ys : List Value} {j k : Nat} (hl : xs.length = k * 7) (hj : j < k) : sv (xs ++ ys) j = sv xs j := by
  unfold sv
  rw [List.drop_append_of_le_length (by omega), List.take_append_of_le_length (by rw [List.length_drop]; omega)]

theorem sv_new {xs ys : List Value} {k : Nat} (hl : xs.length = k * 7) (hy : ys.length = 7) : sv (xs ++ ys) k = ys := by
  unfold sv
  rw [← hl, List.drop_left, List.take_of_length_le (by omega)]

theorem hcellsR (w : World) (c0 c1 c2 c3 c4 c5 c6 : Value) (E : TypeId) : ∀ j u, [c0, c1, c2, c3, c4, c5, c6][j]? = some u → (w.alloc (.cells #[c0, c1, c2, c3, c4, c5, c6] E)).cell? ((⟨w.heap.size, 0, none⟩ : Addr).add j) = some u := by
  intro j u hj
  rw [Addr.add_lit, Nat.zero_add, cell_of_row _ _ j _ _ _ (heap_alloc_new w _)]
  simpa using hj

/-- A row of data of the call's own, in blocks from lo on. -/
structure LI (lo h : Nat) (I : List (Tr (h + 1))) (v : Value) (xs : List Value) (W : World) : Prop where
  own : W.ownsRow lo 31 7 v I.length xs
  it : ∀ j (hj : j < I.length), DatQ (fun b => lo ≤ b ∧ v.ownBlock ≠ some b) W (h + 1) I[j] (sv xs j)

theorem LI.nil (lo h : Nat) (W : World) : LI lo h [] (.slice none 0 0) [] W := ⟨World.ownsRow_nil _ _ _ _, fun j hj => by simp at hj⟩

theorem LI.shape {lo h : Nat} {I : List (Tr (h + 1))} {v : Value} {xs : List Value} {W : World} (L : LI lo h I v xs W) : ∃ ao cap, v = .slice ao I.length cap := by
  rcases L.own.2 with ⟨e, e0⟩ | ⟨g, cap, cur, e, _⟩
  · exact ⟨none, 0, by rw [e, e0]⟩
  · exact ⟨_, _, e⟩

theorem LI.keep {lo h : Nat} {I : List (Tr (h + 1))} {v : Value} {xs : List Value} {W W' : World} (L : LI lo h I v xs W) (hw : ∀ g, g < W.heap.size → lo ≤ g → W'.heap[g]? = W.heap[g]?) : LI lo h I v xs W' := by
  refine ⟨⟨L.own.1, ?_⟩, fun j hj => DatQ.keep (fun g hg hq => hw g hg hq.1) (fun g _ hq => hq) (L.it j hj)⟩
  rcases L.own.2 with e | ⟨g, cap, cur, e, h1, h2, h3⟩
  · exact .inl e
  · exact .inr ⟨g, cap, cur, e, h1, (hw g (Array.getElem?_eq_some_iff.1 h2).1 h1).trans h2, h3⟩

theorem LI.fin {lo h : Nat} {I : List (Tr (h + 1))} {v : Value} {xs : List Value} {wr : World} (L : LI lo h I v xs wr) : RowD wr (DatQ (fun k => lo ≤ k) wr (h + 1)) v I ∧ VQ (fun k => lo ≤ k) v I.length := by
  have hlen := L.own.1
  rcases L.own.2 with ⟨rfl, h0⟩ | ⟨g, cap, cur, rfl, h1, h2, h3, h4, h5, h6⟩
  · exact ⟨⟨none, 0, by rw [h0], by omega, by decide, .inl h0⟩, .inl h0⟩
  · refine ⟨⟨some ⟨g, 0, none⟩, cap, rfl, h3, by unfold maxLen at h4; omega, .inr ⟨g, 0, rfl, fun i hi => ⟨sv xs i, ?_, fun j hj => ?_, ?_⟩⟩⟩, .inr ⟨_, _, _, rfl, h1⟩⟩
    · unfold sv
      rw [List.length_take, List.length_drop]
      omega
    · rw [cell_of_row wr g _ cur _ _ h2, ← Array.getElem?_toList, Nat.zero_add]
      unfold sv
      rw [List.getElem?_take, if_pos hj, List.getElem?_drop]
      have := congrArg (fun l : List Value => l[i * 7 + j]?) h6
      simp only [List.getElem?_take] at this
      rw [if_pos (by omega)] at this
      exact this
    · exact DatQ.keep (w := wr) (fun _ _ _ => rfl) (fun _ _ hq => hq.1) (L.it i hi)

/-- One more. -/
theorem LI.snoc {lo h : Nat} {I : List (Tr (h + 1))} {v : Value} {xs : List Value} {wr w2 w9 : World} {tr : Tr (h + 1)} {d0 d1 d2 d3 d4 d5 d6 : Value} {o : Obj} {g cap : Nat} (L : LI lo h I v xs wr) (hlo : lo ≤ wr.heap.size) (hs2 : wr.heap.size ≤ w2.heap.size) (hw : ∀ b, b < wr.heap.size → lo ≤ b → w2.heap[b]? = wr.heap[b]?) (hd : DatQ (fun b => wr.heap.size ≤ b) w2 (h + 1) tr [d0, d1, d2, d3, d4, d5, d6])
    (hown : w9.ownsRow lo 31 7 (.slice (some ⟨g, 0, none⟩) (I.length + 1) cap) (I.length + 1) (xs ++ [d0, d1, d2, d3, d4, d5, d6])) (hgrow : (w2.alloc o).grownBy w9 v.ownBlock) (hat : v.ownBlock = some g ∨ g = w2.heap.size + 1) :
    LI lo h (I ++ [tr]) (.slice (some ⟨g, 0, none⟩) (I.length + 1) cap) (xs ++ [d0, d1, d2, d3, d4, d5, d6]) w9 := by
  have hlen := L.own.1
  have vlt : ∀ b, v.ownBlock = some b → lo ≤ b ∧ b < wr.heap.size := fun b hb => L.own.lt b hb
  refine ⟨by rw [List.length_append]; exact hown, fun j hj => ?_⟩
  rw [List.length_append, List.length_singleton] at hj
  by_cases e : j = I.length
  · subst e
    rw [sv_new hlen rfl, List.getElem_append_right (Nat.le_refl _)]
    simp only [Nat.sub_self, List.getElem_cons_zero]
    refine DatQ.keep (w := w2) (fun b hb hq => ?_) (fun b hb hq => ⟨by omega, fun e => ?_⟩) hd
    · rw [hgrow.block b (by simp; omega) (fun e => by have := (vlt b e.symm).2; omega)]
      exact heap_alloc_old _ _ hb
    · have e' : g = b := by simpa [Value.ownBlock] using e
      rcases hat with h1 | h1
      · have := (vlt g h1).2; omega
      · omega
  · rw [sv_old hlen (by omega), List.getElem_append_left (by omega)]
    refine DatQ.keep (w := wr) (fun b hb hq => ?_) (fun b hb hq => ⟨hq.1, fun e => ?_⟩) (L.it j (by omega))
    · rw [hgrow.block b (by simp; omega) (fun e => hq.2 e.symm), heap_alloc_old _ _ (by omega)]
      exact hw b hb hq.1
    · have e' : g = b := by simpa [Value.ownBlock] using e
      rcases hat with h1 | h1
      · exact hq.2 (by rw [h1, e'])
      · omega

theorem LI.up {lo h : Nat} {I : List (Tr (h + 1))} {v : Value} {xs : List Value} {W W' : World} (L : LI lo h I v xs W) (u : Up W W') : LI lo h I v xs W' := L.keep fun g hg _ => u.block g hg

theorem LI.kr {lo h b : Nat} {I : List (Tr (h + 1))} {v : Value} {xs : List Value} {W W' : World} (L : LI lo h I v xs W) (k : Kr b W W') (hb : b < lo) : LI lo h I v xs W' := L.keep fun g hg hl => k.2 g hg (by omega)

theorem DatC.onesR {w : World} : {h : Nat} → {d : Tr h} → {cs : List Value} → DatC w h d cs → ∀ u ∈ cs, u.oneCell' = true
  | 0, _, _, hd => hd.elim
  | h + 1, (k, n, b, L, t, I, R), cs, hd => by
    obtain ⟨um, ui, ur, rfl, -, hM, -, hI, hR⟩ := hd
    obtain ⟨a1, c1, rfl, -⟩ := hM
    obtain ⟨a2, c2, rfl⟩ := hI.shape
    obtain ⟨a3, c3, rfl⟩ := hR.shape
    intro u hu
    simp at hu
    rcases hu with rfl | rfl | rfl | rfl | rfl | rfl | rfl <;> rfl

/-- Nothing below lo has turned but the reader. -/
def Kl (rb lo : Nat) (w w' : World) : Prop := Below 0 w w' ∧ ∀ g, g < lo → g < w.heap.size → g ≠ rb → w'.heap[g]? = w.heap[g]?

/-- As DPost, with data from lo on. -/
def LPost (w0 : World) (rb : Nat) (t : ByteArray) (d lo : Nat) (w : World) {h : Nat} (R : RD h) (e : Ending) (w' : World) : Prop :=
  Kl rb lo w w' ∧ match R with
    | .inl q => e = .returned (pcP q) ∧ q.k = 11 ∧ RS w0 rb t q.a d w'
    | .inr (x, y, tr, a) => ∃ (k n : Int) (b : Bool) (m1 : Option Addr) (m2 m3 : Nat) (s : ByteArray) (i1 : Option Addr) (i2 i3 : Nat) (r1 : Option Addr) (r2 r3 : Nat),
        e = .returned (pcV x y 10 (.int .i64 k) (.int .i64 n) (.bool b) (.slice m1 m2 m3) (.string s) (.slice i1 i2 i3) (.slice r1 r2 r3) 0) ∧
        DatQ (fun g => lo ≤ g) w' h tr [.int .i64 k, .int .i64 n, .bool b, .slice m1 m2 m3, .string s, .slice i1 i2 i3, .slice r1 r2 r3] ∧ RS w0 rb t a d w'

/-- What stands behind a list's dot, the list being one of the caller's own. -/
def DotOK (t : ByteArray) (m : Nat) : Prop := ∀ (w0 : World) (rb h x y k a f lo : Nat) (I : List (Tr (h + 1))) (ao : Option Addr) (n cap : Nat) (xs : List Value) (w : World), RS w0 rb t a (100 - h) w → h + 1 ≤ 100 → a ≤ t.size → t.size - a < m → 3 * (t.size - a) + 3 ≤ f → rb < lo → lo ≤ w.heap.size → w0.heap.size ≤ lo → I.length ≤ t.size → LI lo h I (.slice ao n cap) xs w →
  Calls Tryd.prog 71 #[.pointer (some ⟨rb, 0, none⟩), pc0 x (y : Int) k, .agg #[.int .i64 6, .int .i64 0, .bool false, .slice none 0 0, .string ⟨#[]⟩, .slice ao n cap, .slice none 0 0]] w fun e w' => LPost w0 rb t (100 - h) lo w (dotM (rdM t.data.toList f h) x I a) e w'

end Go.Proofs.YteipogfolnlblaaDoor
