/-
  What is proved here: pieces without parts, as numbers; package read's cut, lineLength, token. package read's commentLength.
-/
import Derived.Test.YteipogfolnlblaaDoorWR2
namespace Go.Proofs.YteipogfolnlblaaDoor
open Go Go.RowKit

/-- A piece without parts: where it is, what it is, what its datum says, its error; and where the reader is behind it. -/
structure LP where
  x : Nat
  y : Nat
  k : Nat
  dk : Nat
  n : Nat
  s : ByteArray
  er : Nat
  a : Nat

def pcP (p : LP) : Value := pcV p.x p.y p.k (.int .i64 (p.dk : Int)) (.int .i64 (p.n : Int)) (.bool false) (.slice none 0 0) (.string p.s) (.slice none 0 0) (.slice none 0 0) p.er

/-- The next L bytes. -/
def tkP (a L k : Nat) : LP := ⟨a, a + L, k, 0, 0, ⟨#[]⟩, 0, a + L⟩

/-- An error at x. -/
def ftP (x er a : Nat) : LP := ⟨x, x, 11, 0, 0, ⟨#[]⟩, er, a⟩

theorem take_P (w0 : World) (rb : Nat) (t : ByteArray) (a d L k : Nat) (w : World) (h : RS w0 rb t a d w) (ha : a + L ≤ 9223372036854775807) :
    Calls Tryd.prog 40 #[.pointer (some ⟨rb, 0, none⟩), .int .i64 (k : Int), .int .i64 (L : Int)] w fun e w' => e = .returned (pcP (tkP a L k)) ∧ RS w0 rb t (tkP a L k).a d w' ∧ Kr rb w w' :=
  take_any w0 rb t a d L k w h ha

theorem fault_P (w0 : World) (rb : Nat) (t : ByteArray) (a d x er : Nat) (w : World) (h : RS w0 rb t a d w) :
    Calls Tryd.prog 22 #[.int .i64 (x : Int), .int .i64 (er : Int)] w fun e w' => e = .returned (pcP (ftP x er a)) ∧ RS w0 rb t (ftP x er a).a d w' ∧ Kr rb w w' :=
  (fault_any x er w).mono fun _ _ ⟨he, u⟩ => ⟨he, h.more5 u, Kr.of_up u⟩

set_option maxHeartbeats 4000000 in
set_option maxRecDepth 100000 in
theorem cut_P (w0 : World) (rb : Nat) (t : ByteArray) (a d : Nat) (w : World) (h : RS w0 rb t a d w) (ht : t.size ≤ 100000000) :
    Calls Tryd.prog 21 #[.pointer (some ⟨rb, 0, none⟩)] w fun e w' => e = .returned (pcP (ftP t.size 10 a)) ∧ RS w0 rb t (ftP t.size 10 a).a d w' ∧ Kr rb w w' := by
  have uA := up_alloc w zer11
  have hA : RS w0 rb t a d (w.alloc zer11) := ⟨h.up.tr uA, h.ge, uA.old h.cs⟩
  have gA : (w.alloc zer11).heap[w.heap.size]? = some zer11 := heap_alloc_new w zer11
  have hlt := h.lt
  have hsz : w0.heap.size ≤ w.heap.size := h.up.size
  have c0 : (w.alloc zer11).cell? ⟨rb, 0, none⟩ = some (.string t) := cell_of_row _ rb 0 _ _ _ hA.cs
  have c1 : (w.alloc zer11).cell? ⟨rb, 1, none⟩ = some (.int .i64 a) := cell_of_row _ rb 1 _ _ _ hA.cs
  have KS := fault_P w0 rb t a d t.size 10 _ hA
  generalize ftP t.size 10 a = P at *
  have HS := hide KS
  have HG := hide (And.intro gA (And.intro uA (And.intro hlt hsz)))
  have tI : (t.size : Int) ≤ 100000000 := by omega
  clear h uA hA gA hlt hsz KS
  unfold zer11 at HG c0 c1 HS
  unfold pcP pcV at HS
  go_enter Tryd.func21, Tryd.ntmps21
  go_wp2_with (go_at_call 22; refine HS.out.mono ?_; rintro e w2 ⟨rfl, h2, k2⟩; clear c0 c1; have g2 := k2.old (Nat.ne_of_gt HG.out.2.2.1) HG.out.1; obtain ⟨f0, f1, f2, f3, f4, f5, f6, f7, f8, f9, f10⟩ := frozen11 g2; obtain ⟨d0, d1, d2, d3, d4, d5, d6, d7, d8, d9, d10⟩ := cells11 g2; have H2 := hide h2; have HK2 := hide k2; have HG2 := hide g2; clear h2 k2 g2)
  obtain ⟨q1, q2⟩ := sto11 HG2.out (.int .i64 (P.x : Int)) (.int .i64 (P.y : Int)) (.int .i64 (P.k : Int)) (.int .i64 (P.dk : Int)) (.int .i64 (P.n : Int)) (.bool false) (.slice none 0 0) (.string P.s) (.slice none 0 0) (.slice none 0 0) (.int .i64 (P.er : Int))
  clear f0 f1 f2 f3 f4 f5 f6 f7 f8 f9 f10 d0 d1 d2 d3 d4 d5 d6 d7 d8 d9 d10
  generalize (((((((((((w2.setCell ⟨w.heap.size, 0, none⟩ (.int .i64 (P.x : Int))).setCell ⟨w.heap.size, 1, none⟩ (.int .i64 (P.y : Int))).setCell ⟨w.heap.size, 2, none⟩ (.int .i64 (P.k : Int))).setCell ⟨w.heap.size, 3, none⟩ (.int .i64 (P.dk : Int))).setCell ⟨w.heap.size, 4, none⟩ (.int .i64 (P.n : Int))).setCell ⟨w.heap.size, 5, none⟩ (.bool false)).setCell ⟨w.heap.size, 6, none⟩ (.slice none 0 0)).setCell ⟨w.heap.size, 7, none⟩ (.string P.s)).setCell ⟨w.heap.size, 8, none⟩ (.slice none 0 0)).setCell ⟨w.heap.size, 9, none⟩ (.slice none 0 0)).setCell ⟨w.heap.size, 10, none⟩ (.int .i64 (P.er : Int))) = W4 at *
  obtain ⟨d0, d1, d2, d3, d4, d5, d6, d7, d8, d9, d10⟩ := cells11 q1
  refine bodyPost_ret (by simp [results, Tryd.results21, go_sem, d0, d1, d2, d3, d4, d5, d6, d7, d8, d9, d10]; rfl) rfl ?_
  obtain ⟨-, uA, hlt, hsz⟩ := HG.out
  exact ⟨by simp [pcP, pcV], ⟨q2.up H2.out.up hsz, H2.out.ge, q2.old (Nat.ne_of_lt hlt) H2.out.cs⟩, Kr.join uA HK2.out q2 (Nat.le_refl _)⟩

/-- How many bytes there are up to a line's end. -/
def lineL (l : List UInt8) : Nat := if 0 ≤ Lib.indexByte l 10 then (Lib.indexByte l 10).toNat else l.length

set_option maxHeartbeats 4000000 in
set_option maxRecDepth 100000 in
theorem line_any (s : ByteArray) (w : World) :
    Calls Tryd.prog 41 #[.string s] w fun e w' => e = .returned (.int .i64 (lineL s.data.toList : Nat)) ∧ w' = w := by
  have KI := fun (W : World) => index_any s 10 W
  unfold lineL
  rw [bytes_len]
  generalize Lib.indexByte s.data.toList 10 = x at *
  have HI := hide KI
  clear KI
  by_cases hx : 0 ≤ x
  · go_enter Tryd.func41, Tryd.ntmps41
    go_wp2_with (go_at_call 59; refine (HI.out _).mono ?_; rintro e w1 ⟨rfl, rfl⟩)
    go_ret
    exact ⟨by show Ending.returned (Value.int .i64 x) = _; rw [Int.max_eq_left hx], rfl⟩
  · go_enter Tryd.func41, Tryd.ntmps41
    go_wp2_with (go_at_call 59; refine (HI.out _).mono ?_; rintro e w1 ⟨rfl, rfl⟩)
    go_ret
    exact ⟨rfl, rfl⟩

/-- What a token is. -/
def tokP (a : Nat) (l : List UInt8) : LP := tkP a (tokL l) (if l.take (tokL l) = [46] then 8 else 9)

theorem ext_take (r : ByteArray) (L : Nat) : (r.extract 0 L).toList = r.data.toList.take L := by
  rw [Lib.extract_toList]
  first | rfl | simp

set_option maxHeartbeats 4000000 in
set_option maxRecDepth 100000 in
theorem token_P (w0 : World) (rb : Nat) (t : ByteArray) (a d : Nat) (r : ByteArray) (w : World) (h : RS w0 rb t a d w) (ha : a + r.size ≤ 1000000000) :
    Calls Tryd.prog 44 #[.pointer (some ⟨rb, 0, none⟩), .string r] w fun e w' => e = .returned (pcP (tokP a r.data.toList)) ∧ RS w0 rb t (tokP a r.data.toList).a d w' ∧ Kr rb w w' := by
  have uA := up_alloc w zer11
  have hA : RS w0 rb t a d (w.alloc zer11) := ⟨h.up.tr uA, h.ge, uA.old h.cs⟩
  have gA : (w.alloc zer11).heap[w.heap.size]? = some zer11 := heap_alloc_new w zer11
  have hlt := h.lt
  have hsz : w0.heap.size ≤ w.heap.size := h.up.size
  have c0 : (w.alloc zer11).cell? ⟨rb, 0, none⟩ = some (.string t) := cell_of_row _ rb 0 _ _ _ hA.cs
  have c1 : (w.alloc zer11).cell? ⟨rb, 1, none⟩ = some (.int .i64 a) := cell_of_row _ rb 1 _ _ _ hA.cs
  have hL : tokL r.data.toList ≤ r.size := by have := tokL_le r.data.toList; rw [bytes_len] at this; exact this
  have KT := fun (W : World) => tokenLength_any r W (by omega)
  unfold tokP
  have hx := ext_take r (tokL r.data.toList)
  rw [← hx]
  clear hx
  generalize tokL r.data.toList = L at *
  have KS := fun (k : Nat) => take_P w0 rb t a d L k _ hA (by omega)
  have HT := hide KT
  have HG := hide (And.intro gA (And.intro uA (And.intro hlt hsz)))
  have LI : (L : Int) ≤ (r.size : Int) := by omega
  by_cases hdot : (r.extract 0 L).toList = [46]
  · rw [if_pos hdot]
    have KS := KS 8
    generalize tkP a L 8 = P at *
    have HS := hide KS
    have hdb : ((r.extract 0 L).toList == [46]) = true := by simpa using hdot
    clear h uA hA gA hlt hsz KS KT hdot
    unfold zer11 at HG c0 c1 HS
    unfold pcP pcV at HS
    go_enter Tryd.func44, Tryd.ntmps44
    go_wp2_with (first
      | (go_at_call 62; refine (HT.out _).mono ?_; rintro e w1 ⟨rfl, rfl⟩)
      | (go_at_call 40; refine HS.out.mono ?_; rintro e w2 ⟨rfl, h2, k2⟩; clear c0 c1; have g2 := k2.old (Nat.ne_of_gt HG.out.2.2.1) HG.out.1; obtain ⟨f0, f1, f2, f3, f4, f5, f6, f7, f8, f9, f10⟩ := frozen11 g2; obtain ⟨d0, d1, d2, d3, d4, d5, d6, d7, d8, d9, d10⟩ := cells11 g2; have H2 := hide h2; have HK2 := hide k2; have HG2 := hide g2; clear h2 k2 g2))
    obtain ⟨q1, q2⟩ := sto11 HG2.out (.int .i64 (P.x : Int)) (.int .i64 (P.y : Int)) (.int .i64 (P.k : Int)) (.int .i64 (P.dk : Int)) (.int .i64 (P.n : Int)) (.bool false) (.slice none 0 0) (.string P.s) (.slice none 0 0) (.slice none 0 0) (.int .i64 (P.er : Int))
    clear f0 f1 f2 f3 f4 f5 f6 f7 f8 f9 f10 d0 d1 d2 d3 d4 d5 d6 d7 d8 d9 d10
    generalize (((((((((((w2.setCell ⟨w.heap.size, 0, none⟩ (.int .i64 (P.x : Int))).setCell ⟨w.heap.size, 1, none⟩ (.int .i64 (P.y : Int))).setCell ⟨w.heap.size, 2, none⟩ (.int .i64 (P.k : Int))).setCell ⟨w.heap.size, 3, none⟩ (.int .i64 (P.dk : Int))).setCell ⟨w.heap.size, 4, none⟩ (.int .i64 (P.n : Int))).setCell ⟨w.heap.size, 5, none⟩ (.bool false)).setCell ⟨w.heap.size, 6, none⟩ (.slice none 0 0)).setCell ⟨w.heap.size, 7, none⟩ (.string P.s)).setCell ⟨w.heap.size, 8, none⟩ (.slice none 0 0)).setCell ⟨w.heap.size, 9, none⟩ (.slice none 0 0)).setCell ⟨w.heap.size, 10, none⟩ (.int .i64 (P.er : Int))) = W4 at *
    obtain ⟨d0, d1, d2, d3, d4, d5, d6, d7, d8, d9, d10⟩ := cells11 q1
    refine bodyPost_ret (by simp [results, Tryd.results44, go_sem, d0, d1, d2, d3, d4, d5, d6, d7, d8, d9, d10]; rfl) rfl ?_
    obtain ⟨-, uA, hlt, hsz⟩ := HG.out
    exact ⟨by simp [pcP, pcV], ⟨q2.up H2.out.up hsz, H2.out.ge, q2.old (Nat.ne_of_lt hlt) H2.out.cs⟩, Kr.join uA HK2.out q2 (Nat.le_refl _)⟩
  · rw [if_neg hdot]
    have KS := KS 9
    generalize tkP a L 9 = P at *
    have HS := hide KS
    have hdb : ((r.extract 0 L).toList == [46]) = false := by simpa using hdot
    clear h uA hA gA hlt hsz KS KT hdot
    unfold zer11 at HG c0 c1 HS
    unfold pcP pcV at HS
    go_enter Tryd.func44, Tryd.ntmps44
    go_wp2_with (first
      | (go_at_call 62; refine (HT.out _).mono ?_; rintro e w1 ⟨rfl, rfl⟩)
      | (go_at_call 40; refine HS.out.mono ?_; rintro e w2 ⟨rfl, h2, k2⟩; clear c0 c1; have g2 := k2.old (Nat.ne_of_gt HG.out.2.2.1) HG.out.1; obtain ⟨f0, f1, f2, f3, f4, f5, f6, f7, f8, f9, f10⟩ := frozen11 g2; obtain ⟨d0, d1, d2, d3, d4, d5, d6, d7, d8, d9, d10⟩ := cells11 g2; have H2 := hide h2; have HK2 := hide k2; have HG2 := hide g2; clear h2 k2 g2))
    obtain ⟨q1, q2⟩ := sto11 HG2.out (.int .i64 (P.x : Int)) (.int .i64 (P.y : Int)) (.int .i64 (P.k : Int)) (.int .i64 (P.dk : Int)) (.int .i64 (P.n : Int)) (.bool false) (.slice none 0 0) (.string P.s) (.slice none 0 0) (.slice none 0 0) (.int .i64 (P.er : Int))
    clear f0 f1 f2 f3 f4 f5 f6 f7 f8 f9 f10 d0 d1 d2 d3 d4 d5 d6 d7 d8 d9 d10
    generalize (((((((((((w2.setCell ⟨w.heap.size, 0, none⟩ (.int .i64 (P.x : Int))).setCell ⟨w.heap.size, 1, none⟩ (.int .i64 (P.y : Int))).setCell ⟨w.heap.size, 2, none⟩ (.int .i64 (P.k : Int))).setCell ⟨w.heap.size, 3, none⟩ (.int .i64 (P.dk : Int))).setCell ⟨w.heap.size, 4, none⟩ (.int .i64 (P.n : Int))).setCell ⟨w.heap.size, 5, none⟩ (.bool false)).setCell ⟨w.heap.size, 6, none⟩ (.slice none 0 0)).setCell ⟨w.heap.size, 7, none⟩ (.string P.s)).setCell ⟨w.heap.size, 8, none⟩ (.slice none 0 0)).setCell ⟨w.heap.size, 9, none⟩ (.slice none 0 0)).setCell ⟨w.heap.size, 10, none⟩ (.int .i64 (P.er : Int))) = W4 at *
    obtain ⟨d0, d1, d2, d3, d4, d5, d6, d7, d8, d9, d10⟩ := cells11 q1
    refine bodyPost_ret (by simp [results, Tryd.results44, go_sem, d0, d1, d2, d3, d4, d5, d6, d7, d8, d9, d10]; rfl) rfl ?_
    obtain ⟨-, uA, hlt, hsz⟩ := HG.out
    exact ⟨by simp [pcP, pcV], ⟨q2.up H2.out.up hsz, H2.out.ge, q2.old (Nat.ne_of_lt hlt) H2.out.cs⟩, Kr.join uA HK2.out q2 (Nat.le_refl _)⟩

/-- How many bytes there are up to the end of a comment, o of them being open. -/
def comM : List UInt8 → Nat → Option Nat
  | x :: y :: l, o => if x = 35 ∧ y = 124 then (comM l (o + 1)).map (· + 2) else if x = 124 ∧ y = 35 then (if o = 1 then some 2 else (comM l (o - 1)).map (· + 2)) else (comM (y :: l) o).map (· + 1)
  | _, _ => none

theorem comM_short {l : List UInt8} (o : Nat) (h : l.length ≤ 1) : comM l o = none := by
  match l, h with
  | [], _ => rfl
  | [_], _ => rfl

theorem map_map2 (x : Option Nat) (i j : Nat) : (x.map (· + j)).map (· + i) = x.map (· + (i + j)) := by
  cases x
  · rfl
  · simp; omega

theorem comM_le : ∀ (m : Nat) (l : List UInt8) (o v : Nat), l.length ≤ m → comM l o = some v → v ≤ l.length ∧ 1 ≤ v
  | 0, l, o, v, hl, h => by rw [comM_short o (by omega)] at h; cases h
  | m + 1, [], o, v, hl, h => by cases h
  | m + 1, [_], o, v, hl, h => by cases h
  | m + 1, x :: y :: l, o, v, hl, h => by
    simp only [comM] at h
    simp only [List.length_cons] at hl ⊢
    split at h
    · obtain ⟨u, hu, rfl⟩ := Option.map_eq_some_iff.1 h
      have := comM_le m l _ _ (by omega) hu
      omega
    · split at h
      · split at h
        · cases h; omega
        · obtain ⟨u, hu, rfl⟩ := Option.map_eq_some_iff.1 h
          have := comM_le m l _ _ (by omega) hu
          omega
      · obtain ⟨u, hu, rfl⟩ := Option.map_eq_some_iff.1 h
        have := comM_le m (y :: l) _ _ (by simp; omega) hu
        simp only [List.length_cons] at this
        omega

theorem two_bytes (r : ByteArray) (i : Nat) (x y : UInt8) (l : List UInt8) (h : r.data.toList.drop i = x :: y :: l) : (r.extract i (i + 2)).toList = [x, y] ∧ i + 2 ≤ r.size := by
  have hz : r.size - i = l.length + 2 := by rw [← bytes_len, ← List.length_drop, h]; rfl
  refine ⟨?_, by omega⟩
  rw [Lib.extract_toList, h]
  first | rfl | (rw [show i + 2 - i = 2 from by omega]; rfl)

set_option maxHeartbeats 4000000 in
set_option maxRecDepth 100000 in
theorem comment_any (r : ByteArray) (w : World) (hr : r.size ≤ 1000000000) (h0 : ∃ l, r.data.toList = 35 :: 124 :: l) :
    Calls Tryd.prog 61 #[.string r] w fun e w' => e = .returned (.tuple #[.int .i64 (((comM r.data.toList 0).getD 0 : Nat) : Int), .bool (comM r.data.toList 0).isSome]) ∧ w' = w := by
  obtain ⟨M, hM⟩ : ∃ M, M = comM r.data.toList 0 := ⟨_, rfl⟩
  rw [← hM]
  have H0 := hide h0
  have HM := hide hM
  clear h0 hM
  go_enter Tryd.func61, Tryd.ntmps61
  go_wp2_with fail
  go_loopw [4, 5] (fun a4 a5 wr => wr = w ∧ ∃ i o : Nat, a4 = .int .i64 (o : Int) ∧ a5 = .int .i64 (i : Int) ∧ i ≤ r.size ∧ o ≤ i ∧ (1 ≤ o ∨ i = 0) ∧ M = (comM (r.data.toList.drop i) o).map (· + i)) (fun _ a5 _ => r.size - (intOf a5).toNat)
  case atStart => exact ⟨rfl, 0, 0, rfl, rfl, Nat.zero_le _, Nat.le_refl _, .inr rfl, by rw [HM.out]; simp⟩
  case round =>
    obtain ⟨rfl, i, o, rfl, rfl, hi, hoi, ho, hm⟩ := hrel
    have hlen : (r.data.toList.drop i).length = r.size - i := by rw [List.length_drop, bytes_len]
    match hd : r.data.toList.drop i with
    | [] =>
      rw [hd] at hlen hm
      simp only [List.length_nil] at hlen
      have hI : ¬ ((i : Int) + 1 < (r.size : Int)) := by omega
      have em : M = none := by rw [hm]; rfl
      subst em
      clear hm hlen
      go_wp2_with fail
      refine bodyPost_ret (by simp [results, Tryd.results61, go_sem]; rfl) rfl ?_
      exact ⟨by simp, rfl⟩
    | [c] =>
      rw [hd] at hlen hm
      simp only [List.length_cons, List.length_nil] at hlen
      have hI : ¬ ((i : Int) + 1 < (r.size : Int)) := by omega
      have em : M = none := by rw [hm]; rfl
      subst em
      clear hm hlen
      go_wp2_with fail
      refine bodyPost_ret (by simp [results, Tryd.results61, go_sem]; rfl) rfl ?_
      exact ⟨by simp, rfl⟩
    | x :: y :: l =>
      obtain ⟨he, hz⟩ := two_bytes r i x y l hd
      have d2 : r.data.toList.drop (i + 2) = l := by rw [← List.drop_drop, hd]; rfl
      have d1 : r.data.toList.drop (i + 1) = y :: l := by rw [← List.drop_drop, hd]; rfl
      rw [hd] at hm
      simp only [comM] at hm
      have hI : ((i : Int) + 1 < (r.size : Int)) := by omega
      have hI2 : ((i : Int) + 2 ≤ (r.size : Int)) := by omega
      have oI : (o : Int) ≤ 1000000000 := by omega
      by_cases hA : x = 35 ∧ y = 124
      · rw [if_pos hA, map_map2] at hm
        have b1 : ((r.extract i (i + 2)).toList == [35, 124]) = true := by rw [he, hA.1, hA.2]; rfl
        have o1 : ¬ ((o : Int) + 1 = 0) := by omega
        have HM2 := hide hm
        clear hm he hA hd hlen
        go_wp2_with fail
        refine ⟨⟨trivial, i + 2, o + 1, by go_num, by go_num, by omega, by omega, .inl (by omega), by rw [d2]; exact HM2.out⟩, ?_⟩
        simp [intOf]; omega
      · rw [if_neg hA] at hm
        have b1 : ((r.extract i (i + 2)).toList == [35, 124]) = false := by rw [he]; simpa using fun e1 e2 => hA ⟨e1, e2⟩
        by_cases hB : x = 124 ∧ y = 35
        · rw [if_pos hB] at hm
          have b2 : ((r.extract i (i + 2)).toList == [124, 35]) = true := by rw [he, hB.1, hB.2]; rfl
          have ho1 : 1 ≤ o := by
            rcases ho with h | h
            · exact h
            · exfalso
              obtain ⟨l9, h9⟩ := H0.out
              rw [h, List.drop_zero, h9] at hd
              cases hd
              exact hA ⟨rfl, rfl⟩
          by_cases hone : o = 1
          · rw [if_pos hone] at hm
            subst hone
            have em : M = some (2 + i) := hm
            subst em
            clear hm he hA hB hd hlen
            go_wp2_with fail
            refine bodyPost_ret (by simp [results, Tryd.results61, go_sem]; rfl) rfl ?_
            refine ⟨?_, rfl⟩
            simp
            omega
          · rw [if_neg hone, map_map2] at hm
            have o1 : ¬ ((o : Int) - 1 = 0) := by omega
            have HM2 := hide hm
            clear hm he hA hB hd hlen
            go_wp2_with fail
            refine ⟨⟨trivial, i + 2, o - 1, by go_num, by go_num, by omega, by omega, .inl (by omega), by rw [d2]; exact HM2.out⟩, ?_⟩
            simp [intOf]; omega
        · rw [if_neg hB, map_map2] at hm
          have b2 : ((r.extract i (i + 2)).toList == [124, 35]) = false := by rw [he]; simpa using fun e1 e2 => hB ⟨e1, e2⟩
          have ho1 : 1 ≤ o := by
            rcases ho with h | h
            · exact h
            · exfalso
              obtain ⟨l9, h9⟩ := H0.out
              rw [h, List.drop_zero, h9] at hd
              cases hd
              exact hA ⟨rfl, rfl⟩
          have o1 : ¬ ((o : Int) = 0) := by omega
          have HM2 := hide hm
          clear hm he hA hB hd hlen
          go_wp2_with fail
          refine ⟨⟨trivial, i + 1, o, by go_num, by go_num, by omega, by omega, .inl (by omega), by rw [d1]; exact HM2.out⟩, ?_⟩
          simp [intOf]; omega

end Go.Proofs.YteipogfolnlblaaDoor
