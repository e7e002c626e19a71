/-
  What is proved here: pieces without parts, as numbers; package read's cut, lineLength, token.
-/
import Derived.Test.YteipogfolnlblaaWR2
namespace Go.Proofs.Yteipogfolnlblaa
open Go Go.RowKit
/-- A piece without parts: where it is, what it is, what its datum says, its error; and where the reader is behind it. -/
structure LP where
  x : Nat
  y : Nat
  k : Nat
  dk : Nat
  n : Nat
  s : ByteArray
  er : Nat
  a : Nat

def pcP (p : LP) : Value := pcV p.x p.y p.k (.int .i64 (p.dk : Int)) (.int .i64 (p.n : Int)) (.bool false) (.slice none 0 0) (.string p.s) (.slice none 0 0) (.slice none 0 0) p.er

/-- The next L bytes. -/
def tkP (a L k : Nat) : LP := ⟨a, a + L, k, 0, 0, ⟨#[]⟩, 0, a + L⟩

/-- An error at x. -/
def ftP (x er a : Nat) : LP := ⟨x, x, 11, 0, 0, ⟨#[]⟩, er, a⟩

theorem take_P (w0 : World) (rb : Nat) (t : ByteArray) (a d L k : Nat) (w : World) (h : RS w0 rb t a d w) (ha : a + L ≤ 9223372036854775807) :
    Calls Try.prog 46 #[.pointer (some ⟨rb, 0, none⟩), .int .i64 (k : Int), .int .i64 (L : Int)] w fun e w' => e = .returned (pcP (tkP a L k)) ∧ RS w0 rb t (tkP a L k).a d w' ∧ Kr rb w w' :=
  take_any w0 rb t a d L k w h ha

theorem fault_P (w0 : World) (rb : Nat) (t : ByteArray) (a d x er : Nat) (w : World) (h : RS w0 rb t a d w) :
    Calls Try.prog 28 #[.int .i64 (x : Int), .int .i64 (er : Int)] w fun e w' => e = .returned (pcP (ftP x er a)) ∧ RS w0 rb t (ftP x er a).a d w' ∧ Kr rb w w' :=
  (fault_any x er w).mono fun _ _ ⟨he, u⟩ => ⟨he, h.more5 u, Kr.of_up u⟩

set_option maxHeartbeats 4000000 in
set_option maxRecDepth 100000 in
theorem cut_P (w0 : World) (rb : Nat) (t : ByteArray) (a d : Nat) (w : World) (h : RS w0 rb t a d w) (ht : t.size ≤ 100000000) :
    Calls Try.prog 27 #[.pointer (some ⟨rb, 0, none⟩)] w fun e w' => e = .returned (pcP (ftP t.size 10 a)) ∧ RS w0 rb t (ftP t.size 10 a).a d w' ∧ Kr rb w w' := by
  have uA := up_alloc w zer11
  have hA : RS w0 rb t a d (w.alloc zer11) := ⟨h.up.tr uA, h.ge, uA.old h.cs⟩
  have gA : (w.alloc zer11).heap[w.heap.size]? = some zer11 := heap_alloc_new w zer11
  have hlt := h.lt
  have hsz : w0.heap.size ≤ w.heap.size := h.up.size
  have c0 : (w.alloc zer11).cell? ⟨rb, 0, none⟩ = some (.string t) := cell_of_row _ rb 0 _ _ _ hA.cs
  have c1 : (w.alloc zer11).cell? ⟨rb, 1, none⟩ = some (.int .i64 a) := cell_of_row _ rb 1 _ _ _ hA.cs
  have KS := fault_P w0 rb t a d t.size 10 _ hA
  generalize ftP t.size 10 a = P at *
  have HS := hide KS
  have HG := hide (And.intro gA (And.intro uA (And.intro hlt hsz)))
  have tI : (t.size : Int) ≤ 100000000 := by omega
  clear h uA hA gA hlt hsz KS
  unfold zer11 at HG c0 c1 HS
  unfold pcP pcV at HS
  go_enter Try.func27, Try.ntmps27
  go_wp2_with (go_at_call 28; refine HS.out.mono ?_; rintro e w2 ⟨rfl, h2, k2⟩; clear c0 c1; have g2 := k2.old (Nat.ne_of_gt HG.out.2.2.1) HG.out.1; obtain ⟨f0, f1, f2, f3, f4, f5, f6, f7, f8, f9, f10⟩ := frozen11 g2; obtain ⟨d0, d1, d2, d3, d4, d5, d6, d7, d8, d9, d10⟩ := cells11 g2; have H2 := hide h2; have HK2 := hide k2; have HG2 := hide g2; clear h2 k2 g2)
  obtain ⟨q1, q2⟩ := sto11 HG2.out (.int .i64 (P.x : Int)) (.int .i64 (P.y : Int)) (.int .i64 (P.k : Int)) (.int .i64 (P.dk : Int)) (.int .i64 (P.n : Int)) (.bool false) (.slice none 0 0) (.string P.s) (.slice none 0 0) (.slice none 0 0) (.int .i64 (P.er : Int))
  clear f0 f1 f2 f3 f4 f5 f6 f7 f8 f9 f10 d0 d1 d2 d3 d4 d5 d6 d7 d8 d9 d10
  generalize (((((((((((w2.setCell ⟨w.heap.size, 0, none⟩ (.int .i64 (P.x : Int))).setCell ⟨w.heap.size, 1, none⟩ (.int .i64 (P.y : Int))).setCell ⟨w.heap.size, 2, none⟩ (.int .i64 (P.k : Int))).setCell ⟨w.heap.size, 3, none⟩ (.int .i64 (P.dk : Int))).setCell ⟨w.heap.size, 4, none⟩ (.int .i64 (P.n : Int))).setCell ⟨w.heap.size, 5, none⟩ (.bool false)).setCell ⟨w.heap.size, 6, none⟩ (.slice none 0 0)).setCell ⟨w.heap.size, 7, none⟩ (.string P.s)).setCell ⟨w.heap.size, 8, none⟩ (.slice none 0 0)).setCell ⟨w.heap.size, 9, none⟩ (.slice none 0 0)).setCell ⟨w.heap.size, 10, none⟩ (.int .i64 (P.er : Int))) = W4 at *
  obtain ⟨d0, d1, d2, d3, d4, d5, d6, d7, d8, d9, d10⟩ := cells11 q1
  refine bodyPost_ret (by simp [results, Try.results27, go_sem, d0, d1, d2, d3, d4, d5, d6, d7, d8, d9, d10]; rfl) rfl ?_
  obtain ⟨-, uA, hlt, hsz⟩ := HG.out
  exact ⟨by simp [pcP, pcV], ⟨q2.up H2.out.up hsz, H2.out.ge, q2.old (Nat.ne_of_lt hlt) H2.out.cs⟩, Kr.join uA HK2.out q2 (Nat.le_refl _)⟩

/-- How many bytes there are up to a line's end. -/
def lineL (l : List UInt8) : Nat := if 0 ≤ Lib.indexByte l 10 then (Lib.indexByte l 10).toNat else l.length

set_option maxHeartbeats 4000000 in
set_option maxRecDepth 100000 in
theorem line_any (s : ByteArray) (w : World) :
    Calls Try.prog 47 #[.string s] w fun e w' => e = .returned (.int .i64 (lineL s.data.toList : Nat)) ∧ w' = w := by
  have KI := fun (W : World) => index_any s 10 W
  unfold lineL
  rw [bytes_len]
  generalize Lib.indexByte s.data.toList 10 = x at *
  have HI := hide KI
  clear KI
  by_cases hx : 0 ≤ x
  · go_enter Try.func47, Try.ntmps47
    go_wp2_with (go_at_call 68; refine (HI.out _).mono ?_; rintro e w1 ⟨rfl, rfl⟩)
    go_ret
    exact ⟨by show Ending.returned (Value.int .i64 x) = _; rw [Int.max_eq_left hx], rfl⟩
  · go_enter Try.func47, Try.ntmps47
    go_wp2_with (go_at_call 68; refine (HI.out _).mono ?_; rintro e w1 ⟨rfl, rfl⟩)
    go_ret
    exact ⟨rfl, rfl⟩

/-- What a token is. -/
def tokP (a : Nat) (l : List UInt8) : LP := tkP a (tokL l) (if l.take (tokL l) = [46] then 8 else 9)

theorem ext_take (r : ByteArray) (L : Nat) : (r.extract 0 L).toList = r.data.toList.take L := by
  rw [Lib.extract_toList]
  first | rfl | simp

set_option maxHeartbeats 4000000 in
set_option maxRecDepth 100000 in
theorem token_P (w0 : World) (rb : Nat) (t : ByteArray) (a d : Nat) (r : ByteArray) (w : World) (h : RS w0 rb t a d w) (ha : a + r.size ≤ 1000000000) :
    Calls Try.prog 50 #[.pointer (some ⟨rb, 0, none⟩), .string r] w fun e w' => e = .returned (pcP (tokP a r.data.toList)) ∧ RS w0 rb t (tokP a r.data.toList).a d w' ∧ Kr rb w w' := by
  have uA := up_alloc w zer11
  have hA : RS w0 rb t a d (w.alloc zer11) := ⟨h.up.tr uA, h.ge, uA.old h.cs⟩
  have gA : (w.alloc zer11).heap[w.heap.size]? = some zer11 := heap_alloc_new w zer11
  have hlt := h.lt
  have hsz : w0.heap.size ≤ w.heap.size := h.up.size
  have c0 : (w.alloc zer11).cell? ⟨rb, 0, none⟩ = some (.string t) := cell_of_row _ rb 0 _ _ _ hA.cs
  have c1 : (w.alloc zer11).cell? ⟨rb, 1, none⟩ = some (.int .i64 a) := cell_of_row _ rb 1 _ _ _ hA.cs
  have hL : tokL r.data.toList ≤ r.size := by have := tokL_le r.data.toList; rw [bytes_len] at this; exact this
  have KT := fun (W : World) => tokenLength_any r W (by omega)
  unfold tokP
  have hx := ext_take r (tokL r.data.toList)
  rw [← hx]
  clear hx
  generalize tokL r.data.toList = L at *
  have KS := fun (k : Nat) => take_P w0 rb t a d L k _ hA (by omega)
  have HT := hide KT
  have HG := hide (And.intro gA (And.intro uA (And.intro hlt hsz)))
  have LI : (L : Int) ≤ (r.size : Int) := by omega
  by_cases hdot : (r.extract 0 L).toList = [46]
  · rw [if_pos hdot]
    have KS := KS 8
    generalize tkP a L 8 = P at *
    have HS := hide KS
    have hdb : ((r.extract 0 L).toList == [46]) = true := by simpa using hdot
    clear h uA hA gA hlt hsz KS KT hdot
    unfold zer11 at HG c0 c1 HS
    unfold pcP pcV at HS
    go_enter Try.func50, Try.ntmps50
    go_wp2_with (first
      | (go_at_call 71; refine (HT.out _).mono ?_; rintro e w1 ⟨rfl, rfl⟩)
      | (go_at_call 46; refine HS.out.mono ?_; rintro e w2 ⟨rfl, h2, k2⟩; clear c0 c1; have g2 := k2.old (Nat.ne_of_gt HG.out.2.2.1) HG.out.1; obtain ⟨f0, f1, f2, f3, f4, f5, f6, f7, f8, f9, f10⟩ := frozen11 g2; obtain ⟨d0, d1, d2, d3, d4, d5, d6, d7, d8, d9, d10⟩ := cells11 g2; have H2 := hide h2; have HK2 := hide k2; have HG2 := hide g2; clear h2 k2 g2))
    obtain ⟨q1, q2⟩ := sto11 HG2.out (.int .i64 (P.x : Int)) (.int .i64 (P.y : Int)) (.int .i64 (P.k : Int)) (.int .i64 (P.dk : Int)) (.int .i64 (P.n : Int)) (.bool false) (.slice none 0 0) (.string P.s) (.slice none 0 0) (.slice none 0 0) (.int .i64 (P.er : Int))
    clear f0 f1 f2 f3 f4 f5 f6 f7 f8 f9 f10 d0 d1 d2 d3 d4 d5 d6 d7 d8 d9 d10
    generalize (((((((((((w2.setCell ⟨w.heap.size, 0, none⟩ (.int .i64 (P.x : Int))).setCell ⟨w.heap.size, 1, none⟩ (.int .i64 (P.y : Int))).setCell ⟨w.heap.size, 2, none⟩ (.int .i64 (P.k : Int))).setCell ⟨w.heap.size, 3, none⟩ (.int .i64 (P.dk : Int))).setCell ⟨w.heap.size, 4, none⟩ (.int .i64 (P.n : Int))).setCell ⟨w.heap.size, 5, none⟩ (.bool false)).setCell ⟨w.heap.size, 6, none⟩ (.slice none 0 0)).setCell ⟨w.heap.size, 7, none⟩ (.string P.s)).setCell ⟨w.heap.size, 8, none⟩ (.slice none 0 0)).setCell ⟨w.heap.size, 9, none⟩ (.slice none 0 0)).setCell ⟨w.heap.size, 10, none⟩ (.int .i64 (P.er : Int))) = W4 at *
    obtain ⟨d0, d1, d2, d3, d4, d5, d6, d7, d8, d9, d10⟩ := cells11 q1
    refine bodyPost_ret (by simp [results, Try.results50, go_sem, d0, d1, d2, d3, d4, d5, d6, d7, d8, d9, d10]; rfl) rfl ?_
    obtain ⟨-, uA, hlt, hsz⟩ := HG.out
    exact ⟨by simp [pcP, pcV], ⟨q2.up H2.out.up hsz, H2.out.ge, q2.old (Nat.ne_of_lt hlt) H2.out.cs⟩, Kr.join uA HK2.out q2 (Nat.le_refl _)⟩
  · rw [if_neg hdot]
    have KS := KS 9
    generalize tkP a L 9 = P at *
    have HS := hide KS
    have hdb : ((r.extract 0 L).toList == [46]) = false := by simpa using hdot
    clear h uA hA gA hlt hsz KS KT hdot
    unfold zer11 at HG c0 c1 HS
    unfold pcP pcV at HS
    go_enter Try.func50, Try.ntmps50
    go_wp2_with (first
      | (go_at_call 71; refine (HT.out _).mono ?_; rintro e w1 ⟨rfl, rfl⟩)
      | (go_at_call 46; refine HS.out.mono ?_; rintro e w2 ⟨rfl, h2, k2⟩; clear c0 c1; have g2 := k2.old (Nat.ne_of_gt HG.out.2.2.1) HG.out.1; obtain ⟨f0, f1, f2, f3, f4, f5, f6, f7, f8, f9, f10⟩ := frozen11 g2; obtain ⟨d0, d1, d2, d3, d4, d5, d6, d7, d8, d9, d10⟩ := cells11 g2; have H2 := hide h2; have HK2 := hide k2; have HG2 := hide g2; clear h2 k2 g2))
    obtain ⟨q1, q2⟩ := sto11 HG2.out (.int .i64 (P.x : Int)) (.int .i64 (P.y : Int)) (.int .i64 (P.k : Int)) (.int .i64 (P.dk : Int)) (.int .i64 (P.n : Int)) (.bool false) (.slice none 0 0) (.string P.s) (.slice none 0 0) (.slice none 0 0) (.int .i64 (P.er : Int))
    clear f0 f1 f2 f3 f4 f5 f6 f7 f8 f9 f10 d0 d1 d2 d3 d4 d5 d6 d7 d8 d9 d10
    generalize (((((((((((w2.setCell ⟨w.heap.size, 0, none⟩ (.int .i64 (P.x : Int))).setCell ⟨w.heap.size, 1, none⟩ (.int .i64 (P.y : Int))).setCell ⟨w.heap.size, 2, none⟩ (.int .i64 (P.k : Int))).setCell ⟨w.heap.size, 3, none⟩ (.int .i64 (P.dk : Int))).setCell ⟨w.heap.size, 4, none⟩ (.int .i64 (P.n : Int))).setCell ⟨w.heap.size, 5, none⟩ (.bool false)).setCell ⟨w.heap.size, 6, none⟩ (.slice none 0 0)).setCell ⟨w.heap.size, 7, none⟩ (.string P.s)).setCell ⟨w.heap.size, 8, none⟩ (.slice none 0 0)).setCell ⟨w.heap.size, 9, none⟩ (.slice none 0 0)).setCell ⟨w.heap.size, 10, none⟩ (.int .i64 (P.er : Int))) = W4 at *
    obtain ⟨d0, d1, d2, d3, d4, d5, d6, d7, d8, d9, d10⟩ := cells11 q1
    refine bodyPost_ret (by simp [results, Try.results50, go_sem, d0, d1, d2, d3, d4, d5, d6, d7, d8, d9, d10]; rfl) rfl ?_
    obtain ⟨-, uA, hlt, hsz⟩ := HG.out
    exact ⟨by simp [pcP, pcV], ⟨q2.up H2.out.up hsz, H2.out.ge, q2.old (Nat.ne_of_lt hlt) H2.out.cs⟩, Kr.join uA HK2.out q2 (Nat.le_refl _)⟩

end Go.Proofs.Yteipogfolnlblaa
