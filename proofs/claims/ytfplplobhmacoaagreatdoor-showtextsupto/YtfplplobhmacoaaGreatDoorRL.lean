/-
  What is proved here: package read's escape at a byte as it is written; bytes that grow while a reader goes on.
-/
import Derived.Test.YtfplplobhmacoaaGreatDoorRE
import Derived.Test.YtfplplobhmacoaaGreatDoorSRt
import Derived.Test.YtfplplobhmacoaaGreatDoorSText2
namespace Go.Proofs.YtfplplobhmacoaaGreatDoor
open Go Go.RowKit

/-- The bytes that are written with a backslash. -/
def escB (b : UInt8) : Prop := (b = 34 ∨ b = 92) ∨ b = 10 ∨ b = 9 ∨ (b < 32 ∨ 126 < b)

theorem esc_pair (w0 : World) (rb : Nat) (t : ByteArray) (a d : Nat) (b : UInt8) (l : List UInt8) (w : World) (h : RS w0 rb t a d w) (ht : t.size ≤ 100000000) (x : UInt8) (hx : tbW b = [92, x]) (hy : (x = 34 ∧ (b.toNat : Int) = 34) ∨ (x = 92 ∧ (b.toNat : Int) = 92) ∨ (x = 110 ∧ (b.toNat : Int) = 10) ∨ (x = 116 ∧ (b.toNat : Int) = 9)) (hr : t.data.toList.drop a = tbW b ++ l) :
    Calls Tryz.prog 34 #[.pointer (some ⟨rb, 0, none⟩)] w fun e w' => e = .returned (pcV a ((a + (tbW b).length : Nat) : Int) 10 (.int .i64 3) (.int .i64 (b.toNat : Int)) (.bool false) (.slice none 0 0) (.string ⟨#[]⟩) (.slice none 0 0) (.slice none 0 0) 0) ∧ RS w0 rb t (a + (tbW b).length) d w' ∧ Kr rb w w' := by
  have hz : t.size - a = (tbW b).length + l.length := by rw [← bytes_len, ← List.length_drop, hr, List.length_append]
  rw [hx] at hr hz ⊢
  have e1 : t.data.toList[a + 1]? = some x := by
    rw [← List.getElem?_drop, hr]; rfl
  exact escape_two w0 rb t a d x (b.toNat : Int) w h (by omega) (by simp at hz; omega) e1 hy

theorem esc_any (w0 : World) (rb : Nat) (t : ByteArray) (a d : Nat) (b : UInt8) (l : List UInt8) (w : World) (h : RS w0 rb t a d w) (ht : t.size ≤ 100000000) (hb : escB b) (hr : t.data.toList.drop a = tbW b ++ l) :
    Calls Tryz.prog 34 #[.pointer (some ⟨rb, 0, none⟩)] w fun e w' => e = .returned (pcV a ((a + (tbW b).length : Nat) : Int) 10 (.int .i64 3) (.int .i64 (b.toNat : Int)) (.bool false) (.slice none 0 0) (.string ⟨#[]⟩) (.slice none 0 0) (.slice none 0 0) 0) ∧ RS w0 rb t (a + (tbW b).length) d w' ∧ Kr rb w w' := by
  by_cases h1 : b = 34
  · subst h1; exact esc_pair w0 rb t a d _ l w h ht 34 (by decide) (by decide) hr
  by_cases h2 : b = 92
  · subst h2; exact esc_pair w0 rb t a d _ l w h ht 92 (by decide) (by decide) hr
  by_cases h3 : b = 10
  · subst h3; exact esc_pair w0 rb t a d _ l w h ht 110 (by decide) (by decide) hr
  by_cases h4 : b = 9
  · subst h4; exact esc_pair w0 rb t a d _ l w h ht 116 (by decide) (by decide) hr
  have h5 : b < 32 ∨ 126 < b := by
    rcases hb with (h | h) | h | h | h
    · exact absurd h h1
    · exact absurd h h2
    · exact absurd h h3
    · exact absurd h h4
    · exact h
  have e : tbW b = 92 :: 120 :: hexd (b.toNat / 16) :: hexd (b.toNat % 16) :: [59] := by
    simp [tbW, h1, h2, h3, h4, h5, Go.Proofs.YtfplplobhmacoaaGreatDoor.two]
  rw [e] at hr ⊢
  exact escape_hex w0 rb t a d b.toNat l w h b.toNat_lt ht hr

theorem tbW_plain {b : UInt8} (h : ¬ escB b) : tbW b = [b] := by
  unfold escB at h
  have h1 : ¬ (b = 34 ∨ b = 92) := fun x => h (.inl x)
  have h2 : ¬ b = 10 := fun x => h (.inr (.inl x))
  have h3 : ¬ b = 9 := fun x => h (.inr (.inr (.inl x)))
  have h4 : ¬ (b < 32 ∨ 126 < b) := fun x => h (.inr (.inr (.inr x)))
  simp only [tbW, if_neg h1, if_neg h2, if_neg h3, if_neg h4]
theorem tbW_esc {b : UInt8} (h : escB b) : ∃ l, tbW b = 92 :: l := by
  unfold tbW
  split
  · exact ⟨_, rfl⟩
  split
  · exact ⟨_, rfl⟩
  split
  · exact ⟨_, rfl⟩
  split
  · exact ⟨_, rfl⟩
  · rename_i h1 h2 h3 h4
    rcases h with h | h | h | h
    · exact absurd h h1
    · exact absurd h h2
    · exact absurd h h3
    · exact absurd h h4

theorem Kr.grow {g : Nat} {w1 W w9 : World} {r : Option Nat} (h : Kr g w1 W) (hg : W.grownBy w9 r) (hr : ∀ k, r = some k → w1.heap.size ≤ k) : Kr g w1 w9 :=
  ⟨h.1.grown hg (Nat.zero_le _) (fun _ _ => Nat.zero_le _), fun i hi hne => (hg.block i (Nat.lt_of_lt_of_le hi h.1.size) (fun e => by have := hr i e.symm; omega)).trans (h.2 i hi hne)⟩

/-- A reader at a byte, and the bytes that were read since w1. -/
structure QS (w0 w1 : World) (rb : Nat) (t : ByteArray) (a d : Nat) (v : Value) (S : List UInt8) (W : World) : Prop where
  rs : RS w0 rb t a d W
  lt : rb < w1.heap.size
  up : w0.heap.size ≤ w1.heap.size
  kr : Kr rb w1 W
  own : W.ownsRow w1.heap.size 5 1 v S.length (Lib.byteCells S)

theorem QS.shape {w0 w1 : World} {rb : Nat} {t : ByteArray} {a d : Nat} {v : Value} {S : List UInt8} {W : World} (h : QS w0 w1 rb t a d v S W) : ∃ ao cap, v = .slice ao S.length cap := by
  rcases h.own.2 with ⟨e, e0⟩ | ⟨g, cap, cur, e, _⟩
  · exact ⟨none, 0, by rw [e, e0]⟩
  · exact ⟨_, _, e⟩
/-- The reader goes on. -/
theorem QS.more {w0 w1 : World} {rb : Nat} {t : ByteArray} {a a' d d' : Nat} {v : Value} {S : List UInt8} {W w' : World} (h : QS w0 w1 rb t a d v S W) (hs : RS w0 rb t a' d' w') (k : Kr rb W w') : QS w0 w1 rb t a' d' v S w' := by
  refine ⟨hs, h.lt, h.up, h.kr.tr k, ?_⟩
  refine ⟨h.own.1, ?_⟩
  rcases h.own.2 with e | ⟨g, cap, cur, e, h1, h2, h3⟩
  · exact .inl e
  · exact .inr ⟨g, cap, cur, e, h1, k.old (by have := h.lt; omega) h2, h3⟩
theorem QS.upw {w0 w1 : World} {rb : Nat} {t : ByteArray} {a d : Nat} {v : Value} {S : List UInt8} {W w' : World} (h : QS w0 w1 rb t a d v S W) (u : Up W w') : QS w0 w1 rb t a d v S w' :=
  h.more ⟨h.rs.up.tr u, h.rs.ge, u.old h.rs.cs⟩ (Kr.of_up u)
theorem QS.conv {w0 w1 : World} {rb : Nat} {t : ByteArray} {a d : Nat} {v : Value} {S : List UInt8} {W : World} (h : QS w0 w1 rb t a d v S W) : (convert 37 9 v).run Tryz.prog W = .ok (.string ⟨S.toArray⟩) W := by
  rcases h.own.2 with ⟨rfl, e0⟩ | ⟨g, cap, cur, rfl, _, h2, h3, _, h5, h6⟩
  · have hS : S = [] := List.eq_nil_of_length_eq_zero e0
    subst hS
    exact run_convert_bytes_nil W 37 5 Tryz.underlying37 Tryz.underlying5 0 0 9 Tryz.underlying9
  · exact run_convert_bytes_back (P := Tryz.prog) W 37 9 5 ⟨g, 0, none⟩ cap S Tryz.underlying37 Tryz.underlying5 Tryz.underlying9 (fun j hj => by
      have := h.own.cells (g := g) rfl j (.int .u8 S[j].toNat) (by simp [Lib.byteCells, hj])
      exact this)
/-- append of new bytes, as a step. -/
theorem qs_app {w0 w1 : World} {rb : Nat} {t : ByteArray} {p d : Nat} {v : Value} {S l : List UInt8} {W : World} {cells : List Value} {ops : Array Oper} {rest : List Oper} {o : Oper} {a : Act} {Q : Exit → Act → World → Prop} (h0 : QS w0 w1 rb t p d v S W) (hcs : cells = Lib.byteCells l) (hl : 0 < l.length) (hS : S.length + l.length ≤ 1000000000) (hgd : o.guard = none) (s x : Operand) (ho : o.op = .call { callee := .builtin .append, args := #[s, x], argTypes := #[37, 37] })
    (hs : a.eval s = v) (c gx : Nat) (hgx : gx = W.heap.size) (hx : a.eval x = .slice (some ⟨gx, 0, none⟩) l.length c)
    (h : ∀ g cap w', QS w0 w1 rb t p d (.slice (some ⟨g, 0, none⟩) (S.length + l.length) cap) (S ++ l) w' → wpList Tryz.prog ops Q rest (a.put o.dst (.slice (some ⟨g, 0, none⟩) (S.length + l.length) cap)) w') : wpList Tryz.prog ops Q (o :: rest) a (W.alloc (.cells cells.toArray 5)) := by
  subst hcs hgx
  obtain ⟨i0, hi, hz0, hz1, hz2⟩ := info_parts infoU8
  have hA := h0.upw (up_alloc W (.cells (Lib.byteCells l).toArray 5))
  refine wpList_append_lies _ hgd s x 37 ho w1.heap.size 5 i0 (.int .u8 0) 1 1 Tryz.underlying37 hi hz0 hz1 hz2 rfl (by decide) v S.length _ hs hA.own ⟨W.heap.size, 0, none⟩ l.length c (Lib.byteCells l) hx (by rw [Lib.byteCells_length]; omega) (bytes_at W l) (bytes_one l) hl (by unfold maxLen; omega) (by omega) hA.kr.1.size (W.heap.size + 1) (by simp) ?_
  intro g cap w' h1 h2 _ _
  have hge : ∀ k, v.ownBlock = some k → w1.heap.size ≤ k := fun k hk => (hA.own.lt k hk).1
  have hb : w'.heap[rb]? = _ := (h2.block rb hA.rs.lt (fun e => by have := hge rb e.symm; have := hA.lt; omega)).trans hA.rs.cs
  refine h g cap w' ⟨⟨hA.rs.up.grown h2 hA.rs.up.size (fun k hk => Nat.le_trans hA.up (hge k hk)), hA.rs.ge, hb⟩, hA.lt, hA.up, hA.kr.grow h2 hge, ?_⟩
  rw [List.length_append, Lib.byteCells_append]
  exact h1
/-- The text of bytes stands, if a block of another's turns. -/
theorem QS.conv_kr {w0 w1 : World} {rb g9 : Nat} {t : ByteArray} {a d : Nat} {v : Value} {S : List UInt8} {W W' : World} (h : QS w0 w1 rb t a d v S W) (k : Kr g9 W W') (hg : g9 < w1.heap.size) : (convert 37 9 v).run Tryz.prog W' = .ok (.string ⟨S.toArray⟩) W' := by
  have own : W'.ownsRow w1.heap.size 5 1 v S.length (Lib.byteCells S) := by
    refine ⟨h.own.1, ?_⟩
    rcases h.own.2 with e | ⟨g, cap, cur, e, h1, h2, h3⟩
    · exact .inl e
    · exact .inr ⟨g, cap, cur, e, h1, k.old (by omega) h2, h3⟩
  rcases own.2 with ⟨rfl, e0⟩ | ⟨g, cap, cur, rfl, _, h2, h3, _, h5, h6⟩
  · have hS : S = [] := List.eq_nil_of_length_eq_zero e0
    subst hS
    exact run_convert_bytes_nil W' 37 5 Tryz.underlying37 Tryz.underlying5 0 0 9 Tryz.underlying9
  · exact run_convert_bytes_back (P := Tryz.prog) W' 37 9 5 ⟨g, 0, none⟩ cap S Tryz.underlying37 Tryz.underlying5 Tryz.underlying9 (fun j hj => by
      have := own.cells (g := g) rfl j (.int .u8 S[j].toNat) (by simp [Lib.byteCells, hj])
      exact this)
def slLen : Value → Nat
  | .slice _ n _ => n
  | _ => 0

end Go.Proofs.YtfplplobhmacoaaGreatDoor
