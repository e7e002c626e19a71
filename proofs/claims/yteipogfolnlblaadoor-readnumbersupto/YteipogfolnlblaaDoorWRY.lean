/-
  What is proved here: package read's hexEscape and escape.
-/
import Derived.Test.YteipogfolnlblaaDoorWRX
namespace Go.Proofs.YteipogfolnlblaaDoor
open Go Go.RowKit
/-- L bytes that stand for one. -/
def stP (a L n : Nat) : LP := ⟨a, a + L, 10, 3, n, ⟨#[]⟩, 0, a + L⟩

theorem stands_P (w0 : World) (rb : Nat) (t : ByteArray) (a d L n : Nat) (w : World) (h : RS w0 rb t a d w) (ha : a + L ≤ 9223372036854775807) :
    Calls Tryd.prog 53 #[.pointer (some ⟨rb, 0, none⟩), .int .i64 (L : Int), .int .i64 (n : Int)] w fun e w' => e = .returned (pcP (stP a L n)) ∧ RS w0 rb t (stP a L n).a d w' ∧ Kr rb w w' :=
  stands_any w0 rb t a d L n w h ha

theorem hexP_nn (l : List UInt8) : ∃ N D : Nat, hexP l = ((N : Int), (D : Int)) ∧ N < 256 ∧ D ≤ 2 ∧ D ≤ l.length := by
  match l with
  | [] => exact ⟨0, 0, rfl, by omega, by omega, by simp⟩
  | [c] =>
    simp only [hexP]
    have h1 := hx_lt c
    split
    · exact ⟨0, 0, rfl, by omega, by omega, by simp⟩
    · exact ⟨(hx c).toNat, 1, by simp; omega, by omega, by omega, by simp⟩
  | c :: e :: l =>
    simp only [hexP]
    have h1 := hx_lt c
    have h2 := hx_lt e
    split
    · exact ⟨0, 0, rfl, by omega, by omega, by simp⟩
    · split
      · exact ⟨(hx c).toNat, 1, by simp; omega, by omega, by omega, by simp⟩
      · exact ⟨(hx c * 16 + hx e).toNat, 2, by simp; omega, by omega, by omega, by simp⟩

/-- What a backslash and an x stand for. -/
def hexeP (n a : Nat) (l : List UInt8) : LP :=
  if 2 + (hexP (l.drop 2)).2.toNat = l.length then ftP n 10 a
  else if 0 < (hexP (l.drop 2)).2.toNat ∧ l[2 + (hexP (l.drop 2)).2.toNat]? = some 59 then stP a (2 + (hexP (l.drop 2)).2.toNat + 1) (hexP (l.drop 2)).1.toNat
  else ftP a 13 a

set_option maxHeartbeats 4000000 in
set_option maxRecDepth 100000 in
theorem hexEscape_P (w0 : World) (rb : Nat) (t : ByteArray) (a d : Nat) (r : ByteArray) (w : World) (h : RS w0 rb t a d w) (ht : t.size ≤ 100000000) (ha : a + r.size ≤ 1000000000) (h2r : 2 ≤ r.size) :
    Calls Tryd.prog 54 #[.pointer (some ⟨rb, 0, none⟩), .string r] w fun e w' => e = .returned (pcP (hexeP t.size a r.data.toList)) ∧ RS w0 rb t (hexeP t.size a r.data.toList).a d w' ∧ Kr rb w w' := by
  have uA := up_alloc w zer11
  have hA : RS w0 rb t a d (w.alloc zer11) := ⟨h.up.tr uA, h.ge, uA.old h.cs⟩
  have gA : (w.alloc zer11).heap[w.heap.size]? = some zer11 := heap_alloc_new w zer11
  have hlt := h.lt
  have hsz : w0.heap.size ≤ w.heap.size := h.up.size
  have c0 : (w.alloc zer11).cell? ⟨rb, 0, none⟩ = some (.string t) := cell_of_row _ rb 0 _ _ _ hA.cs
  have c1 : (w.alloc zer11).cell? ⟨rb, 1, none⟩ = some (.int .i64 a) := cell_of_row _ rb 1 _ _ _ hA.cs
  have KH := fun (W : World) => hexBegin_any (r.extract 2 r.size) W (by simp; omega)
  rw [ext_list r 2 h2r] at KH
  unfold hexeP
  have hn := hexP_nn (r.data.toList.drop 2)
  obtain ⟨N, D, eN, hN, hD, hDl⟩ := hn
  rw [List.length_drop, bytes_len] at hDl
  rw [eN] at KH ⊢
  simp only [Int.toNat_natCast] at KH ⊢
  rw [bytes_len]
  have HH := hide KH
  have KU := cut_P w0 rb t a d _ hA ht
  have KS := stands_P w0 rb t a d (2 + D + 1) N _ hA (by omega)
  have KF := fault_P w0 rb t a d a 13 _ hA
  have HG := hide (And.intro gA (And.intro uA (And.intro hlt hsz)))
  have s3 : (2 : Int) ≤ (r.size : Int) := by omega
  have dI : (D : Int) ≤ 2 := by omega
  by_cases e1 : 2 + D = r.size
  · rw [if_pos e1]
    generalize ftP t.size 10 a = P at *
    have HS := hide KU
    have eI : (2 : Int) + (D : Int) = (r.size : Int) := by omega
    clear h uA hA gA hlt hsz KH KU KS KF eN hDl ha ht hN hD h2r e1
    unfold zer11 at HG c0 c1 HS
    unfold pcP pcV at HS
    go_enter Tryd.func54, Tryd.ntmps54
    go_wp2_with (first
      | (go_at_call 55; refine (HH.out _).mono ?_; rintro e w1 ⟨rfl, rfl⟩)
      | (go_at_call 21; refine HS.out.mono ?_; rintro e w2 ⟨rfl, h2, k2⟩; clear c0 c1; have g2 := k2.old (Nat.ne_of_gt HG.out.2.2.1) HG.out.1; obtain ⟨f0, f1, f2, f3, f4, f5, f6, f7, f8, f9, f10⟩ := frozen11 g2; obtain ⟨d0, d1, d2, d3, d4, d5, d6, d7, d8, d9, d10⟩ := cells11 g2; have H2 := hide h2; have HK2 := hide k2; have HG2 := hide g2; clear h2 k2 g2))
    obtain ⟨q1, q2⟩ := sto11 HG2.out (.int .i64 (P.x : Int)) (.int .i64 (P.y : Int)) (.int .i64 (P.k : Int)) (.int .i64 (P.dk : Int)) (.int .i64 (P.n : Int)) (.bool false) (.slice none 0 0) (.string P.s) (.slice none 0 0) (.slice none 0 0) (.int .i64 (P.er : Int))
    clear f0 f1 f2 f3 f4 f5 f6 f7 f8 f9 f10 d0 d1 d2 d3 d4 d5 d6 d7 d8 d9 d10
    generalize (((((((((((w2.setCell ⟨w.heap.size, 0, none⟩ (.int .i64 (P.x : Int))).setCell ⟨w.heap.size, 1, none⟩ (.int .i64 (P.y : Int))).setCell ⟨w.heap.size, 2, none⟩ (.int .i64 (P.k : Int))).setCell ⟨w.heap.size, 3, none⟩ (.int .i64 (P.dk : Int))).setCell ⟨w.heap.size, 4, none⟩ (.int .i64 (P.n : Int))).setCell ⟨w.heap.size, 5, none⟩ (.bool false)).setCell ⟨w.heap.size, 6, none⟩ (.slice none 0 0)).setCell ⟨w.heap.size, 7, none⟩ (.string P.s)).setCell ⟨w.heap.size, 8, none⟩ (.slice none 0 0)).setCell ⟨w.heap.size, 9, none⟩ (.slice none 0 0)).setCell ⟨w.heap.size, 10, none⟩ (.int .i64 (P.er : Int))) = W4 at *
    obtain ⟨d0, d1, d2, d3, d4, d5, d6, d7, d8, d9, d10⟩ := cells11 q1
    refine bodyPost_ret (by simp [results, Tryd.results54, go_sem, d0, d1, d2, d3, d4, d5, d6, d7, d8, d9, d10]; rfl) rfl ?_
    obtain ⟨-, uA, hlt, hsz⟩ := HG.out
    exact ⟨by simp [pcP, pcV], ⟨q2.up H2.out.up hsz, H2.out.ge, q2.old (Nat.ne_of_lt hlt) H2.out.cs⟩, Kr.join uA HK2.out q2 (Nat.le_refl _)⟩
  rw [if_neg e1]
  have eI : ¬ ((2 : Int) + (D : Int) = (r.size : Int)) := by omega
  have lI : (2 : Int) + (D : Int) < (r.size : Int) := by omega
  have lN : 2 + D < r.size := by omega
  have gE : r.data.toList[2 + D]? = some r[2 + D] := by
    have hh : 2 + D < r.data.toList.length := by rw [bytes_len]; exact lN
    rw [List.getElem?_eq_getElem hh]
    simp [ByteArray.getElem_eq_getElem_data]
  rw [gE]
  by_cases e2 : 0 < D
  · by_cases e3 : r[2 + D] = 59
    · rw [if_pos ⟨e2, by rw [e3]⟩]
      generalize stP a (2 + D + 1) N = P at *
      rw [show ((2 + D + 1 : Nat) : Int) = 2 + (D : Int) + 1 from by omega] at KS
      have HS := hide KS
      have e2I : (0 : Int) < (D : Int) := by omega
      clear h uA hA gA hlt hsz KH KU KS KF eN hDl ha ht hN hD h2r gE e1
      unfold zer11 at HG c0 c1 HS
      unfold pcP pcV at HS
      go_enter Tryd.func54, Tryd.ntmps54
      go_wp2_with (first
        | (go_at_call 55; refine (HH.out _).mono ?_; rintro e w1 ⟨rfl, rfl⟩)
        | (go_at_call 53; refine HS.out.mono ?_; rintro e w2 ⟨rfl, h2, k2⟩; clear c0 c1; have g2 := k2.old (Nat.ne_of_gt HG.out.2.2.1) HG.out.1; obtain ⟨f0, f1, f2, f3, f4, f5, f6, f7, f8, f9, f10⟩ := frozen11 g2; obtain ⟨d0, d1, d2, d3, d4, d5, d6, d7, d8, d9, d10⟩ := cells11 g2; have H2 := hide h2; have HK2 := hide k2; have HG2 := hide g2; clear h2 k2 g2))
      obtain ⟨q1, q2⟩ := sto11 HG2.out (.int .i64 (P.x : Int)) (.int .i64 (P.y : Int)) (.int .i64 (P.k : Int)) (.int .i64 (P.dk : Int)) (.int .i64 (P.n : Int)) (.bool false) (.slice none 0 0) (.string P.s) (.slice none 0 0) (.slice none 0 0) (.int .i64 (P.er : Int))
      clear f0 f1 f2 f3 f4 f5 f6 f7 f8 f9 f10 d0 d1 d2 d3 d4 d5 d6 d7 d8 d9 d10
      generalize (((((((((((w2.setCell ⟨w.heap.size, 0, none⟩ (.int .i64 (P.x : Int))).setCell ⟨w.heap.size, 1, none⟩ (.int .i64 (P.y : Int))).setCell ⟨w.heap.size, 2, none⟩ (.int .i64 (P.k : Int))).setCell ⟨w.heap.size, 3, none⟩ (.int .i64 (P.dk : Int))).setCell ⟨w.heap.size, 4, none⟩ (.int .i64 (P.n : Int))).setCell ⟨w.heap.size, 5, none⟩ (.bool false)).setCell ⟨w.heap.size, 6, none⟩ (.slice none 0 0)).setCell ⟨w.heap.size, 7, none⟩ (.string P.s)).setCell ⟨w.heap.size, 8, none⟩ (.slice none 0 0)).setCell ⟨w.heap.size, 9, none⟩ (.slice none 0 0)).setCell ⟨w.heap.size, 10, none⟩ (.int .i64 (P.er : Int))) = W4 at *
      obtain ⟨d0, d1, d2, d3, d4, d5, d6, d7, d8, d9, d10⟩ := cells11 q1
      refine bodyPost_ret (by simp [results, Tryd.results54, go_sem, d0, d1, d2, d3, d4, d5, d6, d7, d8, d9, d10]; rfl) rfl ?_
      obtain ⟨-, uA, hlt, hsz⟩ := HG.out
      exact ⟨by simp [pcP, pcV], ⟨q2.up H2.out.up hsz, H2.out.ge, q2.old (Nat.ne_of_lt hlt) H2.out.cs⟩, Kr.join uA HK2.out q2 (Nat.le_refl _)⟩
    · rw [if_neg (fun e => e3 (Option.some.inj e.2))]
      generalize ftP a 13 a = P at *
      have HS := hide KF
      have e2I : (0 : Int) < (D : Int) := by omega
      have e3I : ¬ ((r[2 + D].toNat : Int) = 59) := not_int (k := 59) (fun e => e3 (UInt8.toNat_inj.1 e))
      clear h uA hA gA hlt hsz KH KU KS KF eN hDl ha ht hN hD h2r gE e1 e3
      unfold zer11 at HG c0 c1 HS
      unfold pcP pcV at HS
      go_enter Tryd.func54, Tryd.ntmps54
      go_wp2_with (first
        | (go_at_call 55; refine (HH.out _).mono ?_; rintro e w1 ⟨rfl, rfl⟩)
        | (go_at_call 22; refine HS.out.mono ?_; rintro e w2 ⟨rfl, h2, k2⟩; clear c0 c1; have g2 := k2.old (Nat.ne_of_gt HG.out.2.2.1) HG.out.1; obtain ⟨f0, f1, f2, f3, f4, f5, f6, f7, f8, f9, f10⟩ := frozen11 g2; obtain ⟨d0, d1, d2, d3, d4, d5, d6, d7, d8, d9, d10⟩ := cells11 g2; have H2 := hide h2; have HK2 := hide k2; have HG2 := hide g2; clear h2 k2 g2))
      obtain ⟨q1, q2⟩ := sto11 HG2.out (.int .i64 (P.x : Int)) (.int .i64 (P.y : Int)) (.int .i64 (P.k : Int)) (.int .i64 (P.dk : Int)) (.int .i64 (P.n : Int)) (.bool false) (.slice none 0 0) (.string P.s) (.slice none 0 0) (.slice none 0 0) (.int .i64 (P.er : Int))
      clear f0 f1 f2 f3 f4 f5 f6 f7 f8 f9 f10 d0 d1 d2 d3 d4 d5 d6 d7 d8 d9 d10
      generalize (((((((((((w2.setCell ⟨w.heap.size, 0, none⟩ (.int .i64 (P.x : Int))).setCell ⟨w.heap.size, 1, none⟩ (.int .i64 (P.y : Int))).setCell ⟨w.heap.size, 2, none⟩ (.int .i64 (P.k : Int))).setCell ⟨w.heap.size, 3, none⟩ (.int .i64 (P.dk : Int))).setCell ⟨w.heap.size, 4, none⟩ (.int .i64 (P.n : Int))).setCell ⟨w.heap.size, 5, none⟩ (.bool false)).setCell ⟨w.heap.size, 6, none⟩ (.slice none 0 0)).setCell ⟨w.heap.size, 7, none⟩ (.string P.s)).setCell ⟨w.heap.size, 8, none⟩ (.slice none 0 0)).setCell ⟨w.heap.size, 9, none⟩ (.slice none 0 0)).setCell ⟨w.heap.size, 10, none⟩ (.int .i64 (P.er : Int))) = W4 at *
      obtain ⟨d0, d1, d2, d3, d4, d5, d6, d7, d8, d9, d10⟩ := cells11 q1
      refine bodyPost_ret (by simp [results, Tryd.results54, go_sem, d0, d1, d2, d3, d4, d5, d6, d7, d8, d9, d10]; rfl) rfl ?_
      obtain ⟨-, uA, hlt, hsz⟩ := HG.out
      exact ⟨by simp [pcP, pcV], ⟨q2.up H2.out.up hsz, H2.out.ge, q2.old (Nat.ne_of_lt hlt) H2.out.cs⟩, Kr.join uA HK2.out q2 (Nat.le_refl _)⟩
  · rw [if_neg (fun e => e2 e.1)]
    generalize ftP a 13 a = P at *
    have HS := hide KF
    have e2I : ¬ ((0 : Int) < (D : Int)) := by omega
    clear h uA hA gA hlt hsz KH KU KS KF eN hDl ha ht hN hD h2r gE e1 e2
    unfold zer11 at HG c0 c1 HS
    unfold pcP pcV at HS
    go_enter Tryd.func54, Tryd.ntmps54
    go_wp2_with (first
      | (go_at_call 55; refine (HH.out _).mono ?_; rintro e w1 ⟨rfl, rfl⟩)
      | (go_at_call 22; refine HS.out.mono ?_; rintro e w2 ⟨rfl, h2, k2⟩; clear c0 c1; have g2 := k2.old (Nat.ne_of_gt HG.out.2.2.1) HG.out.1; obtain ⟨f0, f1, f2, f3, f4, f5, f6, f7, f8, f9, f10⟩ := frozen11 g2; obtain ⟨d0, d1, d2, d3, d4, d5, d6, d7, d8, d9, d10⟩ := cells11 g2; have H2 := hide h2; have HK2 := hide k2; have HG2 := hide g2; clear h2 k2 g2))
    obtain ⟨q1, q2⟩ := sto11 HG2.out (.int .i64 (P.x : Int)) (.int .i64 (P.y : Int)) (.int .i64 (P.k : Int)) (.int .i64 (P.dk : Int)) (.int .i64 (P.n : Int)) (.bool false) (.slice none 0 0) (.string P.s) (.slice none 0 0) (.slice none 0 0) (.int .i64 (P.er : Int))
    clear f0 f1 f2 f3 f4 f5 f6 f7 f8 f9 f10 d0 d1 d2 d3 d4 d5 d6 d7 d8 d9 d10
    generalize (((((((((((w2.setCell ⟨w.heap.size, 0, none⟩ (.int .i64 (P.x : Int))).setCell ⟨w.heap.size, 1, none⟩ (.int .i64 (P.y : Int))).setCell ⟨w.heap.size, 2, none⟩ (.int .i64 (P.k : Int))).setCell ⟨w.heap.size, 3, none⟩ (.int .i64 (P.dk : Int))).setCell ⟨w.heap.size, 4, none⟩ (.int .i64 (P.n : Int))).setCell ⟨w.heap.size, 5, none⟩ (.bool false)).setCell ⟨w.heap.size, 6, none⟩ (.slice none 0 0)).setCell ⟨w.heap.size, 7, none⟩ (.string P.s)).setCell ⟨w.heap.size, 8, none⟩ (.slice none 0 0)).setCell ⟨w.heap.size, 9, none⟩ (.slice none 0 0)).setCell ⟨w.heap.size, 10, none⟩ (.int .i64 (P.er : Int))) = W4 at *
    obtain ⟨d0, d1, d2, d3, d4, d5, d6, d7, d8, d9, d10⟩ := cells11 q1
    refine bodyPost_ret (by simp [results, Tryd.results54, go_sem, d0, d1, d2, d3, d4, d5, d6, d7, d8, d9, d10]; rfl) rfl ?_
    obtain ⟨-, uA, hlt, hsz⟩ := HG.out
    exact ⟨by simp [pcP, pcV], ⟨q2.up H2.out.up hsz, H2.out.ge, q2.old (Nat.ne_of_lt hlt) H2.out.cs⟩, Kr.join uA HK2.out q2 (Nat.le_refl _)⟩

/-- What a backslash stands for. -/
def escP (n a : Nat) (l : List UInt8) : LP :=
  match l with
  | _ :: x :: _ => if x = 34 then stP a 2 34 else if x = 92 then stP a 2 92 else if x = 110 then stP a 2 10 else if x = 116 then stP a 2 9 else if x = 120 then hexeP n a l else ftP a 13 a
  | _ => ftP n 10 a

set_option maxHeartbeats 8000000 in
set_option maxRecDepth 100000 in
theorem escape_P (w0 : World) (rb : Nat) (t : ByteArray) (a d : Nat) (w : World) (h : RS w0 rb t a d w) (ht : t.size ≤ 100000000) (hat : a < t.size) :
    Calls Tryd.prog 36 #[.pointer (some ⟨rb, 0, none⟩)] w fun e w' => e = .returned (pcP (escP t.size a (t.data.toList.drop a))) ∧ RS w0 rb t (escP t.size a (t.data.toList.drop a)).a d w' ∧ Kr rb w w' := by
  have uA := up_alloc w zer11
  have hA : RS w0 rb t a d (w.alloc zer11) := ⟨h.up.tr uA, h.ge, uA.old h.cs⟩
  have gA : (w.alloc zer11).heap[w.heap.size]? = some zer11 := heap_alloc_new w zer11
  have hlt := h.lt
  have hsz : w0.heap.size ≤ w.heap.size := h.up.size
  have c0 : (w.alloc zer11).cell? ⟨rb, 0, none⟩ = some (.string t) := cell_of_row _ rb 0 _ _ _ hA.cs
  have c1 : (w.alloc zer11).cell? ⟨rb, 1, none⟩ = some (.int .i64 a) := cell_of_row _ rb 1 _ _ _ hA.cs
  have hD : RS w0 rb t a d (w.alloc zer11).drew := ⟨hA.up.tr (up_drew _), hA.ge, hA.cs⟩
  have er := ext_list t a (by omega)
  have r0 : (t.extract a t.size).size = t.size - a := by simp
  have KU := cut_P w0 rb t a d _ hD ht
  have KS := fun (n : Nat) => stands_P w0 rb t a d 2 n _ hD (by omega)
  have KF := fault_P w0 rb t a d a 13 _ hD
  have KH := fun (h2 : 2 ≤ (t.extract a t.size).size) => hexEscape_P w0 rb t a d (t.extract a t.size) _ hD ht (by omega) h2
  rw [er] at KH
  have HG := hide (And.intro gA (And.intro uA (And.intro hlt hsz)))
  have aI : (a : Int) ≤ (t.size : Int) := by omega
  have hll : (t.data.toList.drop a).length = t.size - a := by rw [List.length_drop, bytes_len]
  match hl : t.data.toList.drop a with
  | [] => rw [hl] at hll; simp at hll; omega
  | [c] =>
    rw [hl] at er hll
    simp only [List.length_cons, List.length_nil] at hll
    show Calls _ _ _ _ (fun e w' => e = .returned (pcP (ftP t.size 10 a)) ∧ RS w0 rb t (ftP t.size 10 a).a d w' ∧ Kr rb w w')
    generalize ftP t.size 10 a = P at *
    have HS := hide KU
    have HR := hide (show (t.extract a t.size).size = 1 from by omega)
    clear h uA hA gA hlt hsz hD KU KS KF KH er r0 hl hll
    unfold zer11 at HG c0 c1 HS
    unfold pcP pcV at HS
    go_enter Tryd.func36, Tryd.ntmps36
    go_wp2_with fail
    go_region
    have r3 := HR.out
    clear HR
    generalize t.extract a t.size = r at *
    have s1 : (r.size : Int) = 1 := by omega
    go_wp2_with (go_at_call 21; refine HS.out.mono ?_; rintro e w2 ⟨rfl, h2, k2⟩; clear c0 c1; have g2 := k2.old (Nat.ne_of_gt HG.out.2.2.1) HG.out.1; obtain ⟨f0, f1, f2, f3, f4, f5, f6, f7, f8, f9, f10⟩ := frozen11 g2; obtain ⟨d0, d1, d2, d3, d4, d5, d6, d7, d8, d9, d10⟩ := cells11 g2; have H2 := hide h2; have HK2 := hide k2; have HG2 := hide g2; clear h2 k2 g2)
    obtain ⟨q1, q2⟩ := sto11 HG2.out (.int .i64 (P.x : Int)) (.int .i64 (P.y : Int)) (.int .i64 (P.k : Int)) (.int .i64 (P.dk : Int)) (.int .i64 (P.n : Int)) (.bool false) (.slice none 0 0) (.string P.s) (.slice none 0 0) (.slice none 0 0) (.int .i64 (P.er : Int))
    clear f0 f1 f2 f3 f4 f5 f6 f7 f8 f9 f10 d0 d1 d2 d3 d4 d5 d6 d7 d8 d9 d10
    generalize (((((((((((w2.setCell ⟨w.heap.size, 0, none⟩ (.int .i64 (P.x : Int))).setCell ⟨w.heap.size, 1, none⟩ (.int .i64 (P.y : Int))).setCell ⟨w.heap.size, 2, none⟩ (.int .i64 (P.k : Int))).setCell ⟨w.heap.size, 3, none⟩ (.int .i64 (P.dk : Int))).setCell ⟨w.heap.size, 4, none⟩ (.int .i64 (P.n : Int))).setCell ⟨w.heap.size, 5, none⟩ (.bool false)).setCell ⟨w.heap.size, 6, none⟩ (.slice none 0 0)).setCell ⟨w.heap.size, 7, none⟩ (.string P.s)).setCell ⟨w.heap.size, 8, none⟩ (.slice none 0 0)).setCell ⟨w.heap.size, 9, none⟩ (.slice none 0 0)).setCell ⟨w.heap.size, 10, none⟩ (.int .i64 (P.er : Int))) = W4 at *
    obtain ⟨d0, d1, d2, d3, d4, d5, d6, d7, d8, d9, d10⟩ := cells11 q1
    refine bodyPost_ret (by simp [results, Tryd.results36, go_sem, d0, d1, d2, d3, d4, d5, d6, d7, d8, d9, d10]; rfl) rfl ?_
    obtain ⟨-, uA, hlt, hsz⟩ := HG.out
    exact ⟨by simp [pcP, pcV], ⟨q2.up H2.out.up hsz, H2.out.ge, q2.old (Nat.ne_of_lt hlt) H2.out.cs⟩, Kr.join uA ((Kr.of_up (up_drew _)).tr HK2.out) q2 (Nat.le_refl _)⟩
  | c :: x :: l =>
    rw [hl] at er hll KH
    simp only [List.length_cons] at hll
    have r1 : 1 < (t.extract a t.size).size := by omega
    have r2 : (t.extract a t.size)[1] = x := by
      have : (t.extract a t.size).data.toList[1]? = some x := by rw [er]; rfl
      have hh : 1 < (t.extract a t.size).data.toList.length := by rw [bytes_len]; omega
      rw [List.getElem?_eq_getElem hh] at this
      simpa [ByteArray.getElem_eq_getElem_data] using this
    have HR := hide (show ¬ ((t.extract a t.size).size = 1) ∧ ∃ hh : 1 < (t.extract a t.size).size, (t.extract a t.size)[1]'hh = x from ⟨by omega, r1, r2⟩)
    have KH := KH (by omega)
    unfold escP
    simp only []
    clear r1 r2 er
    by_cases b1 : x = 34
    · rw [if_pos b1]
      subst b1
      have KS := KS 34
      generalize stP a 2 34 = P at *
      have HS := hide KS
      clear h uA hA gA hlt hsz hD KU KS KF KH r0 hl hll hat 
      unfold zer11 at HG c0 c1 HS
      unfold pcP pcV at HS
      go_enter Tryd.func36, Tryd.ntmps36
      go_wp2_with fail
      go_region
      obtain ⟨r3, r1, r2⟩ := HR.out
      clear HR
      generalize t.extract a t.size = r at *
      have s1 : ¬ ((r.size : Int) = 1) := by omega
      have s2 : (1 : Int) < (r.size : Int) := by omega
      clear r3
      go_wp2_with (go_at_call 53; refine HS.out.mono ?_; rintro e w2 ⟨rfl, h2, k2⟩; clear c0 c1; have g2 := k2.old (Nat.ne_of_gt HG.out.2.2.1) HG.out.1; obtain ⟨f0, f1, f2, f3, f4, f5, f6, f7, f8, f9, f10⟩ := frozen11 g2; obtain ⟨d0, d1, d2, d3, d4, d5, d6, d7, d8, d9, d10⟩ := cells11 g2; have H2 := hide h2; have HK2 := hide k2; have HG2 := hide g2; clear h2 k2 g2)
      obtain ⟨q1, q2⟩ := sto11 HG2.out (.int .i64 (P.x : Int)) (.int .i64 (P.y : Int)) (.int .i64 (P.k : Int)) (.int .i64 (P.dk : Int)) (.int .i64 (P.n : Int)) (.bool false) (.slice none 0 0) (.string P.s) (.slice none 0 0) (.slice none 0 0) (.int .i64 (P.er : Int))
      clear f0 f1 f2 f3 f4 f5 f6 f7 f8 f9 f10 d0 d1 d2 d3 d4 d5 d6 d7 d8 d9 d10
      generalize (((((((((((w2.setCell ⟨w.heap.size, 0, none⟩ (.int .i64 (P.x : Int))).setCell ⟨w.heap.size, 1, none⟩ (.int .i64 (P.y : Int))).setCell ⟨w.heap.size, 2, none⟩ (.int .i64 (P.k : Int))).setCell ⟨w.heap.size, 3, none⟩ (.int .i64 (P.dk : Int))).setCell ⟨w.heap.size, 4, none⟩ (.int .i64 (P.n : Int))).setCell ⟨w.heap.size, 5, none⟩ (.bool false)).setCell ⟨w.heap.size, 6, none⟩ (.slice none 0 0)).setCell ⟨w.heap.size, 7, none⟩ (.string P.s)).setCell ⟨w.heap.size, 8, none⟩ (.slice none 0 0)).setCell ⟨w.heap.size, 9, none⟩ (.slice none 0 0)).setCell ⟨w.heap.size, 10, none⟩ (.int .i64 (P.er : Int))) = W4 at *
      obtain ⟨d0, d1, d2, d3, d4, d5, d6, d7, d8, d9, d10⟩ := cells11 q1
      refine bodyPost_ret (by simp [results, Tryd.results36, go_sem, d0, d1, d2, d3, d4, d5, d6, d7, d8, d9, d10]; rfl) rfl ?_
      obtain ⟨-, uA, hlt, hsz⟩ := HG.out
      exact ⟨by simp [pcP, pcV], ⟨q2.up H2.out.up hsz, H2.out.ge, q2.old (Nat.ne_of_lt hlt) H2.out.cs⟩, Kr.join uA ((Kr.of_up (up_drew _)).tr HK2.out) q2 (Nat.le_refl _)⟩
    rw [if_neg b1]
    by_cases b2 : x = 92
    · rw [if_pos b2]
      subst b2
      have KS := KS 92
      generalize stP a 2 92 = P at *
      have HS := hide KS
      clear h uA hA gA hlt hsz hD KU KS KF KH r0 hl hll hat b1
      unfold zer11 at HG c0 c1 HS
      unfold pcP pcV at HS
      go_enter Tryd.func36, Tryd.ntmps36
      go_wp2_with fail
      go_region
      obtain ⟨r3, r1, r2⟩ := HR.out
      clear HR
      generalize t.extract a t.size = r at *
      have s1 : ¬ ((r.size : Int) = 1) := by omega
      have s2 : (1 : Int) < (r.size : Int) := by omega
      clear r3
      go_wp2_with (go_at_call 53; refine HS.out.mono ?_; rintro e w2 ⟨rfl, h2, k2⟩; clear c0 c1; have g2 := k2.old (Nat.ne_of_gt HG.out.2.2.1) HG.out.1; obtain ⟨f0, f1, f2, f3, f4, f5, f6, f7, f8, f9, f10⟩ := frozen11 g2; obtain ⟨d0, d1, d2, d3, d4, d5, d6, d7, d8, d9, d10⟩ := cells11 g2; have H2 := hide h2; have HK2 := hide k2; have HG2 := hide g2; clear h2 k2 g2)
      obtain ⟨q1, q2⟩ := sto11 HG2.out (.int .i64 (P.x : Int)) (.int .i64 (P.y : Int)) (.int .i64 (P.k : Int)) (.int .i64 (P.dk : Int)) (.int .i64 (P.n : Int)) (.bool false) (.slice none 0 0) (.string P.s) (.slice none 0 0) (.slice none 0 0) (.int .i64 (P.er : Int))
      clear f0 f1 f2 f3 f4 f5 f6 f7 f8 f9 f10 d0 d1 d2 d3 d4 d5 d6 d7 d8 d9 d10
      generalize (((((((((((w2.setCell ⟨w.heap.size, 0, none⟩ (.int .i64 (P.x : Int))).setCell ⟨w.heap.size, 1, none⟩ (.int .i64 (P.y : Int))).setCell ⟨w.heap.size, 2, none⟩ (.int .i64 (P.k : Int))).setCell ⟨w.heap.size, 3, none⟩ (.int .i64 (P.dk : Int))).setCell ⟨w.heap.size, 4, none⟩ (.int .i64 (P.n : Int))).setCell ⟨w.heap.size, 5, none⟩ (.bool false)).setCell ⟨w.heap.size, 6, none⟩ (.slice none 0 0)).setCell ⟨w.heap.size, 7, none⟩ (.string P.s)).setCell ⟨w.heap.size, 8, none⟩ (.slice none 0 0)).setCell ⟨w.heap.size, 9, none⟩ (.slice none 0 0)).setCell ⟨w.heap.size, 10, none⟩ (.int .i64 (P.er : Int))) = W4 at *
      obtain ⟨d0, d1, d2, d3, d4, d5, d6, d7, d8, d9, d10⟩ := cells11 q1
      refine bodyPost_ret (by simp [results, Tryd.results36, go_sem, d0, d1, d2, d3, d4, d5, d6, d7, d8, d9, d10]; rfl) rfl ?_
      obtain ⟨-, uA, hlt, hsz⟩ := HG.out
      exact ⟨by simp [pcP, pcV], ⟨q2.up H2.out.up hsz, H2.out.ge, q2.old (Nat.ne_of_lt hlt) H2.out.cs⟩, Kr.join uA ((Kr.of_up (up_drew _)).tr HK2.out) q2 (Nat.le_refl _)⟩
    rw [if_neg b2]
    by_cases b3 : x = 110
    · rw [if_pos b3]
      subst b3
      have KS := KS 10
      generalize stP a 2 10 = P at *
      have HS := hide KS
      clear h uA hA gA hlt hsz hD KU KS KF KH r0 hl hll hat b1 b2
      unfold zer11 at HG c0 c1 HS
      unfold pcP pcV at HS
      go_enter Tryd.func36, Tryd.ntmps36
      go_wp2_with fail
      go_region
      obtain ⟨r3, r1, r2⟩ := HR.out
      clear HR
      generalize t.extract a t.size = r at *
      have s1 : ¬ ((r.size : Int) = 1) := by omega
      have s2 : (1 : Int) < (r.size : Int) := by omega
      clear r3
      go_wp2_with (go_at_call 53; refine HS.out.mono ?_; rintro e w2 ⟨rfl, h2, k2⟩; clear c0 c1; have g2 := k2.old (Nat.ne_of_gt HG.out.2.2.1) HG.out.1; obtain ⟨f0, f1, f2, f3, f4, f5, f6, f7, f8, f9, f10⟩ := frozen11 g2; obtain ⟨d0, d1, d2, d3, d4, d5, d6, d7, d8, d9, d10⟩ := cells11 g2; have H2 := hide h2; have HK2 := hide k2; have HG2 := hide g2; clear h2 k2 g2)
      obtain ⟨q1, q2⟩ := sto11 HG2.out (.int .i64 (P.x : Int)) (.int .i64 (P.y : Int)) (.int .i64 (P.k : Int)) (.int .i64 (P.dk : Int)) (.int .i64 (P.n : Int)) (.bool false) (.slice none 0 0) (.string P.s) (.slice none 0 0) (.slice none 0 0) (.int .i64 (P.er : Int))
      clear f0 f1 f2 f3 f4 f5 f6 f7 f8 f9 f10 d0 d1 d2 d3 d4 d5 d6 d7 d8 d9 d10
      generalize (((((((((((w2.setCell ⟨w.heap.size, 0, none⟩ (.int .i64 (P.x : Int))).setCell ⟨w.heap.size, 1, none⟩ (.int .i64 (P.y : Int))).setCell ⟨w.heap.size, 2, none⟩ (.int .i64 (P.k : Int))).setCell ⟨w.heap.size, 3, none⟩ (.int .i64 (P.dk : Int))).setCell ⟨w.heap.size, 4, none⟩ (.int .i64 (P.n : Int))).setCell ⟨w.heap.size, 5, none⟩ (.bool false)).setCell ⟨w.heap.size, 6, none⟩ (.slice none 0 0)).setCell ⟨w.heap.size, 7, none⟩ (.string P.s)).setCell ⟨w.heap.size, 8, none⟩ (.slice none 0 0)).setCell ⟨w.heap.size, 9, none⟩ (.slice none 0 0)).setCell ⟨w.heap.size, 10, none⟩ (.int .i64 (P.er : Int))) = W4 at *
      obtain ⟨d0, d1, d2, d3, d4, d5, d6, d7, d8, d9, d10⟩ := cells11 q1
      refine bodyPost_ret (by simp [results, Tryd.results36, go_sem, d0, d1, d2, d3, d4, d5, d6, d7, d8, d9, d10]; rfl) rfl ?_
      obtain ⟨-, uA, hlt, hsz⟩ := HG.out
      exact ⟨by simp [pcP, pcV], ⟨q2.up H2.out.up hsz, H2.out.ge, q2.old (Nat.ne_of_lt hlt) H2.out.cs⟩, Kr.join uA ((Kr.of_up (up_drew _)).tr HK2.out) q2 (Nat.le_refl _)⟩
    rw [if_neg b3]
    by_cases b4 : x = 116
    · rw [if_pos b4]
      subst b4
      have KS := KS 9
      generalize stP a 2 9 = P at *
      have HS := hide KS
      clear h uA hA gA hlt hsz hD KU KS KF KH r0 hl hll hat b1 b2 b3
      unfold zer11 at HG c0 c1 HS
      unfold pcP pcV at HS
      go_enter Tryd.func36, Tryd.ntmps36
      go_wp2_with fail
      go_region
      obtain ⟨r3, r1, r2⟩ := HR.out
      clear HR
      generalize t.extract a t.size = r at *
      have s1 : ¬ ((r.size : Int) = 1) := by omega
      have s2 : (1 : Int) < (r.size : Int) := by omega
      clear r3
      go_wp2_with (go_at_call 53; refine HS.out.mono ?_; rintro e w2 ⟨rfl, h2, k2⟩; clear c0 c1; have g2 := k2.old (Nat.ne_of_gt HG.out.2.2.1) HG.out.1; obtain ⟨f0, f1, f2, f3, f4, f5, f6, f7, f8, f9, f10⟩ := frozen11 g2; obtain ⟨d0, d1, d2, d3, d4, d5, d6, d7, d8, d9, d10⟩ := cells11 g2; have H2 := hide h2; have HK2 := hide k2; have HG2 := hide g2; clear h2 k2 g2)
      obtain ⟨q1, q2⟩ := sto11 HG2.out (.int .i64 (P.x : Int)) (.int .i64 (P.y : Int)) (.int .i64 (P.k : Int)) (.int .i64 (P.dk : Int)) (.int .i64 (P.n : Int)) (.bool false) (.slice none 0 0) (.string P.s) (.slice none 0 0) (.slice none 0 0) (.int .i64 (P.er : Int))
      clear f0 f1 f2 f3 f4 f5 f6 f7 f8 f9 f10 d0 d1 d2 d3 d4 d5 d6 d7 d8 d9 d10
      generalize (((((((((((w2.setCell ⟨w.heap.size, 0, none⟩ (.int .i64 (P.x : Int))).setCell ⟨w.heap.size, 1, none⟩ (.int .i64 (P.y : Int))).setCell ⟨w.heap.size, 2, none⟩ (.int .i64 (P.k : Int))).setCell ⟨w.heap.size, 3, none⟩ (.int .i64 (P.dk : Int))).setCell ⟨w.heap.size, 4, none⟩ (.int .i64 (P.n : Int))).setCell ⟨w.heap.size, 5, none⟩ (.bool false)).setCell ⟨w.heap.size, 6, none⟩ (.slice none 0 0)).setCell ⟨w.heap.size, 7, none⟩ (.string P.s)).setCell ⟨w.heap.size, 8, none⟩ (.slice none 0 0)).setCell ⟨w.heap.size, 9, none⟩ (.slice none 0 0)).setCell ⟨w.heap.size, 10, none⟩ (.int .i64 (P.er : Int))) = W4 at *
      obtain ⟨d0, d1, d2, d3, d4, d5, d6, d7, d8, d9, d10⟩ := cells11 q1
      refine bodyPost_ret (by simp [results, Tryd.results36, go_sem, d0, d1, d2, d3, d4, d5, d6, d7, d8, d9, d10]; rfl) rfl ?_
      obtain ⟨-, uA, hlt, hsz⟩ := HG.out
      exact ⟨by simp [pcP, pcV], ⟨q2.up H2.out.up hsz, H2.out.ge, q2.old (Nat.ne_of_lt hlt) H2.out.cs⟩, Kr.join uA ((Kr.of_up (up_drew _)).tr HK2.out) q2 (Nat.le_refl _)⟩
    rw [if_neg b4]
    by_cases b5 : x = 120
    · rw [if_pos b5]
      subst b5
      generalize hexeP t.size a (c :: 120 :: l) = P at *
      have HS := hide KH
      clear h uA hA gA hlt hsz hD KU KS KF KH r0 hl hll hat b1 b2 b3 b4
      unfold zer11 at HG c0 c1 HS
      unfold pcP pcV at HS
      go_enter Tryd.func36, Tryd.ntmps36
      go_wp2_with fail
      go_region
      obtain ⟨r3, r1, r2⟩ := HR.out
      clear HR
      generalize t.extract a t.size = r at *
      have s1 : ¬ ((r.size : Int) = 1) := by omega
      have s2 : (1 : Int) < (r.size : Int) := by omega
      clear r3
      go_wp2_with (go_at_call 54; refine HS.out.mono ?_; rintro e w2 ⟨rfl, h2, k2⟩; clear c0 c1; have g2 := k2.old (Nat.ne_of_gt HG.out.2.2.1) HG.out.1; obtain ⟨f0, f1, f2, f3, f4, f5, f6, f7, f8, f9, f10⟩ := frozen11 g2; obtain ⟨d0, d1, d2, d3, d4, d5, d6, d7, d8, d9, d10⟩ := cells11 g2; have H2 := hide h2; have HK2 := hide k2; have HG2 := hide g2; clear h2 k2 g2)
      obtain ⟨q1, q2⟩ := sto11 HG2.out (.int .i64 (P.x : Int)) (.int .i64 (P.y : Int)) (.int .i64 (P.k : Int)) (.int .i64 (P.dk : Int)) (.int .i64 (P.n : Int)) (.bool false) (.slice none 0 0) (.string P.s) (.slice none 0 0) (.slice none 0 0) (.int .i64 (P.er : Int))
      clear f0 f1 f2 f3 f4 f5 f6 f7 f8 f9 f10 d0 d1 d2 d3 d4 d5 d6 d7 d8 d9 d10
      generalize (((((((((((w2.setCell ⟨w.heap.size, 0, none⟩ (.int .i64 (P.x : Int))).setCell ⟨w.heap.size, 1, none⟩ (.int .i64 (P.y : Int))).setCell ⟨w.heap.size, 2, none⟩ (.int .i64 (P.k : Int))).setCell ⟨w.heap.size, 3, none⟩ (.int .i64 (P.dk : Int))).setCell ⟨w.heap.size, 4, none⟩ (.int .i64 (P.n : Int))).setCell ⟨w.heap.size, 5, none⟩ (.bool false)).setCell ⟨w.heap.size, 6, none⟩ (.slice none 0 0)).setCell ⟨w.heap.size, 7, none⟩ (.string P.s)).setCell ⟨w.heap.size, 8, none⟩ (.slice none 0 0)).setCell ⟨w.heap.size, 9, none⟩ (.slice none 0 0)).setCell ⟨w.heap.size, 10, none⟩ (.int .i64 (P.er : Int))) = W4 at *
      obtain ⟨d0, d1, d2, d3, d4, d5, d6, d7, d8, d9, d10⟩ := cells11 q1
      refine bodyPost_ret (by simp [results, Tryd.results36, go_sem, d0, d1, d2, d3, d4, d5, d6, d7, d8, d9, d10]; rfl) rfl ?_
      obtain ⟨-, uA, hlt, hsz⟩ := HG.out
      exact ⟨by simp [pcP, pcV], ⟨q2.up H2.out.up hsz, H2.out.ge, q2.old (Nat.ne_of_lt hlt) H2.out.cs⟩, Kr.join uA ((Kr.of_up (up_drew _)).tr HK2.out) q2 (Nat.le_refl _)⟩
    rw [if_neg b5]
    generalize ftP a 13 a = P at *
    have HS := hide KF
    have n34 : ¬ ((x.toNat : Int) = 34) := not_int (k := 34) (fun e => b1 (UInt8.toNat_inj.1 e))
    have n92 : ¬ ((x.toNat : Int) = 92) := not_int (k := 92) (fun e => b2 (UInt8.toNat_inj.1 e))
    have n110 : ¬ ((x.toNat : Int) = 110) := not_int (k := 110) (fun e => b3 (UInt8.toNat_inj.1 e))
    have n116 : ¬ ((x.toNat : Int) = 116) := not_int (k := 116) (fun e => b4 (UInt8.toNat_inj.1 e))
    have n120 : ¬ ((x.toNat : Int) = 120) := not_int (k := 120) (fun e => b5 (UInt8.toNat_inj.1 e))
    clear h uA hA gA hlt hsz hD KU KS KF KH r0 hl hll hat b1 b2 b3 b4 b5
    unfold zer11 at HG c0 c1 HS
    unfold pcP pcV at HS
    go_enter Tryd.func36, Tryd.ntmps36
    go_wp2_with fail
    go_region
    obtain ⟨r3, r1, r2⟩ := HR.out
    clear HR
    generalize t.extract a t.size = r at *
    have s1 : ¬ ((r.size : Int) = 1) := by omega
    have s2 : (1 : Int) < (r.size : Int) := by omega
    clear r3
    go_wp2_with (go_at_call 22; refine HS.out.mono ?_; rintro e w2 ⟨rfl, h2, k2⟩; clear c0 c1; have g2 := k2.old (Nat.ne_of_gt HG.out.2.2.1) HG.out.1; obtain ⟨f0, f1, f2, f3, f4, f5, f6, f7, f8, f9, f10⟩ := frozen11 g2; obtain ⟨d0, d1, d2, d3, d4, d5, d6, d7, d8, d9, d10⟩ := cells11 g2; have H2 := hide h2; have HK2 := hide k2; have HG2 := hide g2; clear h2 k2 g2)
    obtain ⟨q1, q2⟩ := sto11 HG2.out (.int .i64 (P.x : Int)) (.int .i64 (P.y : Int)) (.int .i64 (P.k : Int)) (.int .i64 (P.dk : Int)) (.int .i64 (P.n : Int)) (.bool false) (.slice none 0 0) (.string P.s) (.slice none 0 0) (.slice none 0 0) (.int .i64 (P.er : Int))
    clear f0 f1 f2 f3 f4 f5 f6 f7 f8 f9 f10 d0 d1 d2 d3 d4 d5 d6 d7 d8 d9 d10
    generalize (((((((((((w2.setCell ⟨w.heap.size, 0, none⟩ (.int .i64 (P.x : Int))).setCell ⟨w.heap.size, 1, none⟩ (.int .i64 (P.y : Int))).setCell ⟨w.heap.size, 2, none⟩ (.int .i64 (P.k : Int))).setCell ⟨w.heap.size, 3, none⟩ (.int .i64 (P.dk : Int))).setCell ⟨w.heap.size, 4, none⟩ (.int .i64 (P.n : Int))).setCell ⟨w.heap.size, 5, none⟩ (.bool false)).setCell ⟨w.heap.size, 6, none⟩ (.slice none 0 0)).setCell ⟨w.heap.size, 7, none⟩ (.string P.s)).setCell ⟨w.heap.size, 8, none⟩ (.slice none 0 0)).setCell ⟨w.heap.size, 9, none⟩ (.slice none 0 0)).setCell ⟨w.heap.size, 10, none⟩ (.int .i64 (P.er : Int))) = W4 at *
    obtain ⟨d0, d1, d2, d3, d4, d5, d6, d7, d8, d9, d10⟩ := cells11 q1
    refine bodyPost_ret (by simp [results, Tryd.results36, go_sem, d0, d1, d2, d3, d4, d5, d6, d7, d8, d9, d10]; rfl) rfl ?_
    obtain ⟨-, uA, hlt, hsz⟩ := HG.out
    exact ⟨by simp [pcP, pcV], ⟨q2.up H2.out.up hsz, H2.out.ge, q2.old (Nat.ne_of_lt hlt) H2.out.cs⟩, Kr.join uA ((Kr.of_up (up_drew _)).tr HK2.out) q2 (Nat.le_refl _)⟩

end Go.Proofs.YteipogfolnlblaaDoor
