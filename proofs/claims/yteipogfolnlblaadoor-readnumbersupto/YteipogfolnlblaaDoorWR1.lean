/-
  What is proved here: package read's made. package read's hexEscape and escape at the two digits of a byte. package read's escape at a byte as it is written; bytes that grow while a reader goes on. package read's quoted, at a text as it is written.
-/
import Derived.Test.YteipogfolnlblaaDoorWRA
import Derived.Test.YteipogfolnlblaaDoorWSh
import Derived.Test.YteipogfolnlblaaDoorWRC
import Derived.Laws.BytesString
import Derived.Deep.RegionHeld3
namespace Go.Proofs.YteipogfolnlblaaDoor
open Go Go.RowKit

set_option maxHeartbeats 2000000 in
set_option maxRecDepth 100000 in
theorem made_any (a b k n : Int) (bb : Bool) (t : ByteArray) (m1 i1 r1 : Option Addr) (m2 m3 i2 i3 r2 r3 : Nat) (w : World) :
    Calls Tryd.prog 35 #[.int .i64 a, .int .i64 b, .agg #[.int .i64 k, .int .i64 n, .bool bb, .slice m1 m2 m3, .string t, .slice i1 i2 i3, .slice r1 r2 r3]] w fun e w' => e = .returned (pcV a b 10 (.int .i64 k) (.int .i64 n) (.bool bb) (.slice m1 m2 m3) (.string t) (.slice i1 i2 i3) (.slice r1 r2 r3) 0) ∧ Up w w' := by
  go_enter Tryd.func35, Tryd.ntmps35
  go_wp2
  refine bodyPost_ret (by simp [results, Tryd.results35, go_sem]; rfl) rfl ?_
  exact ⟨rfl, (up_alloc w _).tr (up_alloc _ _)⟩

set_option maxHeartbeats 2000000 in
set_option maxRecDepth 100000 in
theorem fault_any (a e : Int) (w : World) :
    Calls Tryd.prog 22 #[.int .i64 a, .int .i64 e] w fun r w' => r = .returned (pcV a a 11 (.int .i64 0) (.int .i64 0) (.bool false) (.slice none 0 0) (.string ⟨#[]⟩) (.slice none 0 0) (.slice none 0 0) e) ∧ Up w w' := by
  go_enter Tryd.func22, Tryd.ntmps22
  go_wp2
  refine bodyPost_ret (by simp [results, Tryd.results22, go_sem]; rfl) rfl ?_
  exact ⟨rfl, up_alloc w _⟩

set_option maxHeartbeats 2000000 in
set_option maxRecDepth 100000 in
theorem stands_any (w0 : World) (rb : Nat) (t : ByteArray) (a d n : Nat) (c : Int) (w : World) (h : RS w0 rb t a d w) (ha : a + n ≤ 9223372036854775807) :
    Calls Tryd.prog 53 #[.pointer (some ⟨rb, 0, none⟩), .int .i64 (n : Int), .int .i64 c] w fun e w' => e = .returned (pcV a ((a + n : Nat) : Int) 10 (.int .i64 3) (.int .i64 c) (.bool false) (.slice none 0 0) (.string ⟨#[]⟩) (.slice none 0 0) (.slice none 0 0) 0) ∧ RS w0 rb t (a + n) d w' ∧ Kr rb w w' := by
  have uA := up_alloc w zer11
  have hA : RS w0 rb t a d (w.alloc zer11) := ⟨h.up.tr uA, h.ge, uA.old h.cs⟩
  have gA : (w.alloc zer11).heap[w.heap.size]? = some zer11 := heap_alloc_new w zer11
  have KT := take_any w0 rb t a d n 10 _ hA ha
  have HT := hide KT
  have hlt := h.lt
  have hsz : w0.heap.size ≤ w.heap.size := h.up.size
  have HG := hide (And.intro gA (And.intro uA (And.intro hlt hsz)))
  clear KT h uA hA gA hlt hsz
  unfold pc0 pcV at HT
  unfold zer11 at HT HG
  go_enter Tryd.func53, Tryd.ntmps53
  go_wp2_with (go_at_call 40; refine HT.out.mono ?_; rintro e w2 ⟨rfl, h2, k2⟩; have g2 := k2.old (Nat.ne_of_gt HG.out.2.2.1) HG.out.1; have u3 := up_alloc w2 (.cells #[.int .i64 a, .int .i64 ((a : Int) + (n : Int)), .int .i64 10, .int .i64 3, .int .i64 c, .bool false, .slice none 0 0, .string ⟨#[]⟩, .slice none 0 0, .slice none 0 0, .int .i64 0] 50); have g3 := u3.old g2; obtain ⟨f0, f1, f2, f3, f4, f5, f6, f7, f8, f9, f10⟩ := frozen11 g3; obtain ⟨d0, d1, d2, d3, d4, d5, d6, d7, d8, d9, d10⟩ := cells11 g3; have H2 := hide h2; have HK2 := hide k2; have HG3 := hide (And.intro g3 u3); clear h2 k2 g2 g3 u3)
  obtain ⟨g3, u3⟩ := HG3.out
  obtain ⟨q1, q2⟩ := sto11 g3 (.int .i64 a) (.int .i64 ((a : Int) + (n : Int))) (.int .i64 10) (.int .i64 3) (.int .i64 c) (.bool false) (.slice none 0 0) (.string ⟨#[]⟩) (.slice none 0 0) (.slice none 0 0) (.int .i64 0)
  clear f0 f1 f2 f3 f4 f5 f6 f7 f8 f9 f10 d0 d1 d2 d3 d4 d5 d6 d7 d8 d9 d10
  generalize w2.alloc (.cells #[.int .i64 a, .int .i64 ((a : Int) + (n : Int)), .int .i64 10, .int .i64 3, .int .i64 c, .bool false, .slice none 0 0, .string ⟨#[]⟩, .slice none 0 0, .slice none 0 0, .int .i64 0] 50) = W3 at *
  generalize (((((((((((W3.setCell ⟨w.heap.size, 0, none⟩ (.int .i64 a)).setCell ⟨w.heap.size, 1, none⟩ (.int .i64 ((a : Int) + (n : Int)))).setCell ⟨w.heap.size, 2, none⟩ (.int .i64 10)).setCell ⟨w.heap.size, 3, none⟩ (.int .i64 3)).setCell ⟨w.heap.size, 4, none⟩ (.int .i64 c)).setCell ⟨w.heap.size, 5, none⟩ (.bool false)).setCell ⟨w.heap.size, 6, none⟩ (.slice none 0 0)).setCell ⟨w.heap.size, 7, none⟩ (.string ⟨#[]⟩)).setCell ⟨w.heap.size, 8, none⟩ (.slice none 0 0)).setCell ⟨w.heap.size, 9, none⟩ (.slice none 0 0)).setCell ⟨w.heap.size, 10, none⟩ (.int .i64 0)) = W4 at *
  obtain ⟨d0, d1, d2, d3, d4, d5, d6, d7, d8, d9, d10⟩ := cells11 q1
  refine bodyPost_ret (by simp [results, Tryd.results53, go_sem, d0, d1, d2, d3, d4, d5, d6, d7, d8, d9, d10]; rfl) rfl ?_
  obtain ⟨-, uA, hlt, hsz⟩ := HG.out
  have k1 := Kr.join uA (HK2.out.tr (Kr.of_up u3)) q2 (Nat.le_refl _)
  exact ⟨by simp [pcV], ⟨q2.up (H2.out.up.tr u3) hsz, H2.out.ge, q2.old (Nat.ne_of_lt hlt) (u3.old H2.out.cs)⟩, k1⟩

theorem ext_list (t : ByteArray) (a : Nat) (_ha : a ≤ t.size) : (t.extract a t.size).data.toList = t.data.toList.drop a := by
  rw [ByteArray.data_extract, Array.toList_extract]
  have hl : t.size = t.data.toList.length := (bytes_len t).symm
  rw [hl]
  simp only [List.extract_eq_take_drop]
  exact List.take_of_length_le (by rw [List.length_drop]; omega)

theorem Kr.grow {g : Nat} {w1 W w9 : World} {r : Option Nat} (h : Kr g w1 W) (hg : W.grownBy w9 r) (hr : ∀ k, r = some k → w1.heap.size ≤ k) : Kr g w1 w9 :=
  ⟨h.1.grown hg (Nat.zero_le _) (fun _ _ => Nat.zero_le _), fun i hi hne => (hg.block i (Nat.lt_of_lt_of_le hi h.1.size) (fun e => by have := hr i e.symm; omega)).trans (h.2 i hi hne)⟩

/-- A reader at a byte, and the bytes that were read since w1. -/
structure QS (w0 w1 : World) (rb : Nat) (t : ByteArray) (a d : Nat) (v : Value) (S : List UInt8) (W : World) : Prop where
  rs : RS w0 rb t a d W
  lt : rb < w1.heap.size
  up : w0.heap.size ≤ w1.heap.size
  kr : Kr rb w1 W
  own : W.ownsRow w1.heap.size 5 1 v S.length (Lib.byteCells S)

theorem QS.shape {w0 w1 : World} {rb : Nat} {t : ByteArray} {a d : Nat} {v : Value} {S : List UInt8} {W : World} (h : QS w0 w1 rb t a d v S W) : ∃ ao cap, v = .slice ao S.length cap := by
  rcases h.own.2 with ⟨e, e0⟩ | ⟨g, cap, cur, e, _⟩
  · exact ⟨none, 0, by rw [e, e0]⟩
  · exact ⟨_, _, e⟩

/-- The reader goes on. -/
theorem QS.more {w0 w1 : World} {rb : Nat} {t : ByteArray} {a a' d d' : Nat} {v : Value} {S : List UInt8} {W w' : World} (h : QS w0 w1 rb t a d v S W) (hs : RS w0 rb t a' d' w') (k : Kr rb W w') : QS w0 w1 rb t a' d' v S w' := by
  refine ⟨hs, h.lt, h.up, h.kr.tr k, ?_⟩
  refine ⟨h.own.1, ?_⟩
  rcases h.own.2 with e | ⟨g, cap, cur, e, h1, h2, h3⟩
  · exact .inl e
  · exact .inr ⟨g, cap, cur, e, h1, k.old (by have := h.lt; omega) h2, h3⟩

theorem QS.upw {w0 w1 : World} {rb : Nat} {t : ByteArray} {a d : Nat} {v : Value} {S : List UInt8} {W w' : World} (h : QS w0 w1 rb t a d v S W) (u : Up W w') : QS w0 w1 rb t a d v S w' :=
  h.more ⟨h.rs.up.tr u, h.rs.ge, u.old h.rs.cs⟩ (Kr.of_up u)

/-- append of new bytes, as a step. -/
theorem qs_app {w0 w1 : World} {rb : Nat} {t : ByteArray} {p d : Nat} {v : Value} {S l : List UInt8} {W : World} {cells : List Value} {ops : Array Oper} {rest : List Oper} {o : Oper} {a : Act} {Q : Exit → Act → World → Prop} (h0 : QS w0 w1 rb t p d v S W) (hcs : cells = Lib.byteCells l) (hl : 0 < l.length) (hS : S.length + l.length ≤ 1000000000) (hgd : o.guard = none) (s x : Operand) (ho : o.op = .call { callee := .builtin .append, args := #[s, x], argTypes := #[68, 68] })
    (hs : a.eval s = v) (c gx : Nat) (hgx : gx = W.heap.size) (hx : a.eval x = .slice (some ⟨gx, 0, none⟩) l.length c)
    (h : ∀ g cap w', QS w0 w1 rb t p d (.slice (some ⟨g, 0, none⟩) (S.length + l.length) cap) (S ++ l) w' → wpList Tryd.prog ops Q rest (a.put o.dst (.slice (some ⟨g, 0, none⟩) (S.length + l.length) cap)) w') : wpList Tryd.prog ops Q (o :: rest) a (W.alloc (.cells cells.toArray 5)) := by
  subst hcs hgx
  obtain ⟨i0, hi, hz0, hz1, hz2⟩ := info_parts infoU8
  have hA := h0.upw (up_alloc W (.cells (Lib.byteCells l).toArray 5))
  refine wpList_append_lies _ hgd s x 68 ho w1.heap.size 5 i0 (.int .u8 0) 1 1 Tryd.underlying68 hi hz0 hz1 hz2 rfl (by decide) v S.length _ hs hA.own ⟨W.heap.size, 0, none⟩ l.length c (Lib.byteCells l) hx (by rw [Lib.byteCells_length]; omega) (bytes_at W l) (bytes_one l) hl (by unfold maxLen; omega) (by omega) hA.kr.1.size (W.heap.size + 1) (by simp) ?_
  intro g cap w' h1 h2 _ _
  have hge : ∀ k, v.ownBlock = some k → w1.heap.size ≤ k := fun k hk => (hA.own.lt k hk).1
  have hb : w'.heap[rb]? = _ := (h2.block rb hA.rs.lt (fun e => by have := hge rb e.symm; have := hA.lt; omega)).trans hA.rs.cs
  refine h g cap w' ⟨⟨hA.rs.up.grown h2 hA.rs.up.size (fun k hk => Nat.le_trans hA.up (hge k hk)), hA.rs.ge, hb⟩, hA.lt, hA.up, hA.kr.grow h2 hge, ?_⟩
  rw [List.length_append, Lib.byteCells_append]
  exact h1

/-- The text of bytes stands, if a block of another's turns. -/
theorem QS.conv_kr {w0 w1 : World} {rb g9 : Nat} {t : ByteArray} {a d : Nat} {v : Value} {S : List UInt8} {W W' : World} (h : QS w0 w1 rb t a d v S W) (k : Kr g9 W W') (hg : g9 < w1.heap.size) : (convert 68 9 v).run Tryd.prog W' = .ok (.string ⟨S.toArray⟩) W' := by
  have own : W'.ownsRow w1.heap.size 5 1 v S.length (Lib.byteCells S) := by
    refine ⟨h.own.1, ?_⟩
    rcases h.own.2 with e | ⟨g, cap, cur, e, h1, h2, h3⟩
    · exact .inl e
    · exact .inr ⟨g, cap, cur, e, h1, k.old (by omega) h2, h3⟩
  rcases own.2 with ⟨rfl, e0⟩ | ⟨g, cap, cur, rfl, _, h2, h3, _, h5, h6⟩
  · have hS : S = [] := List.eq_nil_of_length_eq_zero e0
    subst hS
    exact run_convert_bytes_nil W' 68 5 Tryd.underlying68 Tryd.underlying5 0 0 9 Tryd.underlying9
  · exact run_convert_bytes_back (P := Tryd.prog) W' 68 9 5 ⟨g, 0, none⟩ cap S Tryd.underlying68 Tryd.underlying5 Tryd.underlying9 (fun j hj => by
      have := own.cells (g := g) rfl j (.int .u8 S[j].toNat) (by simp [Lib.byteCells, hj])
      exact this)

theorem byte_at (t : ByteArray) (A : Nat) (x : UInt8) (l : List UInt8) (h : t.data.toList.drop A = x :: l) : ∃ hh : A < t.size, t[A]'hh = x ∧ t.size - A = l.length + 1 := by
  have hz : t.size - A = l.length + 1 := by rw [← bytes_len, ← List.length_drop, h]; rfl
  have hA : A < t.size := by omega
  refine ⟨hA, ?_, hz⟩
  have e1 : t.data.toList[A]? = some x := by
    have := List.getElem?_drop (xs := t.data.toList) (i := A) (j := 0)
    rw [h] at this; simpa using this.symm
  have hh : A < t.data.toList.length := by rw [bytes_len]; exact hA
  rw [List.getElem?_eq_getElem hh] at e1
  simpa [ByteArray.getElem_eq_getElem_data] using e1

end Go.Proofs.YteipogfolnlblaaDoor
