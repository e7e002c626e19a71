/-
  What is proved here: package read's sharp.
-/
import Derived.Test.YteipogfolnlblaaDoorWRUV
namespace Go.Proofs.YteipogfolnlblaaDoor
open Go Go.RowKit
/-- What begins with a #; n is the text's length. -/
def shP (n a : Nat) (l : List UInt8) : LP :=
  if Lib.hasPrefix l [35, 124] then (match comM l 0 with | none => ftP n 10 a | some L => tkP a L 1)
  else if Lib.hasPrefix l [35, 59] then tkP a 2 2
  else if Lib.hasPrefix l [35, 40] then tkP a 2 3
  else if Lib.hasPrefix l [35, 92] then tkP a (min 3 l.length + tokL (l.drop (min 3 l.length))) 7
  else tokP a l

theorem pref_two (l : List UInt8) (x y : UInt8) (h : Lib.hasPrefix l [x, y] = true) : ∃ l', l = x :: y :: l' := by
  match l, h with
  | [], h => simp [Lib.hasPrefix] at h
  | [_], h => simp [Lib.hasPrefix] at h
  | p :: q :: l', h =>
    simp [Lib.hasPrefix] at h
    exact ⟨l', by rw [h.1, h.2]⟩

set_option maxHeartbeats 4000000 in
set_option maxRecDepth 100000 in
theorem sharp_P (w0 : World) (rb : Nat) (t : ByteArray) (a d : Nat) (r : ByteArray) (w : World) (h : RS w0 rb t a d w) (ht : t.size ≤ 100000000) (ha : a + r.size ≤ 1000000000) :
    Calls Tryd.prog 43 #[.pointer (some ⟨rb, 0, none⟩), .string r] w fun e w' => e = .returned (pcP (shP t.size a r.data.toList)) ∧ RS w0 rb t (shP t.size a r.data.toList).a d w' ∧ Kr rb w w' := by
  have uA := up_alloc w zer11
  have hA : RS w0 rb t a d (w.alloc zer11) := ⟨h.up.tr uA, h.ge, uA.old h.cs⟩
  have gA : (w.alloc zer11).heap[w.heap.size]? = some zer11 := heap_alloc_new w zer11
  have hlt := h.lt
  have hsz : w0.heap.size ≤ w.heap.size := h.up.size
  have c0 : (w.alloc zer11).cell? ⟨rb, 0, none⟩ = some (.string t) := cell_of_row _ rb 0 _ _ _ hA.cs
  have c1 : (w.alloc zer11).cell? ⟨rb, 1, none⟩ = some (.int .i64 a) := cell_of_row _ rb 1 _ _ _ hA.cs
  have z0 : r.data.toList.length = r.size := bytes_len r
  have K1 := fun (W : World) => prefix_any r ⟨#[35, 124]⟩ W
  have K2 := fun (W : World) => prefix_any r ⟨#[35, 59]⟩ W
  have K3 := fun (W : World) => prefix_any r ⟨#[35, 40]⟩ W
  have K4 := fun (W : World) => prefix_any r ⟨#[35, 92]⟩ W
  have KC := fun (h0 : ∃ l, r.data.toList = 35 :: 124 :: l) (W : World) => comment_any r W (by omega) h0
  have KU := cut_P w0 rb t a d _ hA ht
  have KT := fun (L k : Nat) (hL : a + L ≤ 9000000000) => take_P w0 rb t a d L k _ hA (by omega)
  have KL := fun (W : World) (m : Nat) (_hm : m ≤ r.size) => tokenLength_any (r.extract m r.size) W (by simp; omega)
  have KO := token_P w0 rb t a d r _ hA ha
  have HG := hide (And.intro gA (And.intro uA (And.intro hlt hsz)))
  rw [show (⟨#[35, 124]⟩ : ByteArray).data.toList = [35, 124] from rfl] at K1
  rw [show (⟨#[35, 59]⟩ : ByteArray).data.toList = [35, 59] from rfl] at K2
  rw [show (⟨#[35, 40]⟩ : ByteArray).data.toList = [35, 40] from rfl] at K3
  rw [show (⟨#[35, 92]⟩ : ByteArray).data.toList = [35, 92] from rfl] at K4
  unfold shP
  by_cases p1 : Lib.hasPrefix r.data.toList [35, 124] = true
  · rw [if_pos p1]
    rw [p1] at K1
    have KC := KC (pref_two _ _ _ p1)
    have hle := fun v => comM_le _ r.data.toList 0 v (Nat.le_refl _)
    generalize comM r.data.toList 0 = M at *
    match M with
    | none =>
      show Calls _ _ _ _ (fun e w' => e = .returned (pcP (ftP t.size 10 a)) ∧ RS w0 rb t (ftP t.size 10 a).a d w' ∧ Kr rb w w')
      generalize ftP t.size 10 a = P at *
      have HS := hide KU
      have HC := hide KC
      simp only [Option.getD_none, Option.isSome_none] at HC
      have G1 := hide K1
      clear h uA hA gA hlt hsz K1 K2 K3 K4 KC KU KT KL KO z0 hle p1 ht
      unfold zer11 at HG c0 c1 HS
      unfold pcP pcV at HS
      go_enter Tryd.func43, Tryd.ntmps43
      go_wp2_with (first
        | (go_at_call 42; (first | refine (G1.out _).mono ?_); rintro e w1 ⟨rfl, rfl⟩)
        | (go_at_call 61; refine (HC.out _).mono ?_; rintro e w1 ⟨rfl, rfl⟩)
        | (go_at_call 21; refine HS.out.mono ?_; rintro e w2 ⟨rfl, h2, k2⟩; clear c0 c1; have g2 := k2.old (Nat.ne_of_gt HG.out.2.2.1) HG.out.1; obtain ⟨f0, f1, f2, f3, f4, f5, f6, f7, f8, f9, f10⟩ := frozen11 g2; obtain ⟨d0, d1, d2, d3, d4, d5, d6, d7, d8, d9, d10⟩ := cells11 g2; have H2 := hide h2; have HK2 := hide k2; have HG2 := hide g2; clear h2 k2 g2))
      obtain ⟨q1, q2⟩ := sto11 HG2.out (.int .i64 (P.x : Int)) (.int .i64 (P.y : Int)) (.int .i64 (P.k : Int)) (.int .i64 (P.dk : Int)) (.int .i64 (P.n : Int)) (.bool false) (.slice none 0 0) (.string P.s) (.slice none 0 0) (.slice none 0 0) (.int .i64 (P.er : Int))
      clear f0 f1 f2 f3 f4 f5 f6 f7 f8 f9 f10 d0 d1 d2 d3 d4 d5 d6 d7 d8 d9 d10
      generalize (((((((((((w2.setCell ⟨w.heap.size, 0, none⟩ (.int .i64 (P.x : Int))).setCell ⟨w.heap.size, 1, none⟩ (.int .i64 (P.y : Int))).setCell ⟨w.heap.size, 2, none⟩ (.int .i64 (P.k : Int))).setCell ⟨w.heap.size, 3, none⟩ (.int .i64 (P.dk : Int))).setCell ⟨w.heap.size, 4, none⟩ (.int .i64 (P.n : Int))).setCell ⟨w.heap.size, 5, none⟩ (.bool false)).setCell ⟨w.heap.size, 6, none⟩ (.slice none 0 0)).setCell ⟨w.heap.size, 7, none⟩ (.string P.s)).setCell ⟨w.heap.size, 8, none⟩ (.slice none 0 0)).setCell ⟨w.heap.size, 9, none⟩ (.slice none 0 0)).setCell ⟨w.heap.size, 10, none⟩ (.int .i64 (P.er : Int))) = W4 at *
      obtain ⟨d0, d1, d2, d3, d4, d5, d6, d7, d8, d9, d10⟩ := cells11 q1
      refine bodyPost_ret (by simp [results, Tryd.results43, go_sem, d0, d1, d2, d3, d4, d5, d6, d7, d8, d9, d10]; rfl) rfl ?_
      obtain ⟨-, uA, hlt, hsz⟩ := HG.out
      exact ⟨by simp [pcP, pcV], ⟨q2.up H2.out.up hsz, H2.out.ge, q2.old (Nat.ne_of_lt hlt) H2.out.cs⟩, Kr.join uA HK2.out q2 (Nat.le_refl _)⟩
    | some L =>
      have hL := (hle L rfl).1
      show Calls _ _ _ _ (fun e w' => e = .returned (pcP (tkP a L 1)) ∧ RS w0 rb t (tkP a L 1).a d w' ∧ Kr rb w w')
      have KT := KT L 1 (by omega)
      generalize tkP a L 1 = P at *
      have HS := hide KT
      have HC := hide KC
      simp only [Option.getD_some, Option.isSome_some] at HC
      have G1 := hide K1
      clear h uA hA gA hlt hsz K1 K2 K3 K4 KC KU KT KL KO z0 hle hL p1 ht
      unfold zer11 at HG c0 c1 HS
      unfold pcP pcV at HS
      go_enter Tryd.func43, Tryd.ntmps43
      go_wp2_with (first
        | (go_at_call 42; (first | refine (G1.out _).mono ?_); rintro e w1 ⟨rfl, rfl⟩)
        | (go_at_call 61; refine (HC.out _).mono ?_; rintro e w1 ⟨rfl, rfl⟩)
        | (go_at_call 40; refine HS.out.mono ?_; rintro e w2 ⟨rfl, h2, k2⟩; clear c0 c1; have g2 := k2.old (Nat.ne_of_gt HG.out.2.2.1) HG.out.1; obtain ⟨f0, f1, f2, f3, f4, f5, f6, f7, f8, f9, f10⟩ := frozen11 g2; obtain ⟨d0, d1, d2, d3, d4, d5, d6, d7, d8, d9, d10⟩ := cells11 g2; have H2 := hide h2; have HK2 := hide k2; have HG2 := hide g2; clear h2 k2 g2))
      obtain ⟨q1, q2⟩ := sto11 HG2.out (.int .i64 (P.x : Int)) (.int .i64 (P.y : Int)) (.int .i64 (P.k : Int)) (.int .i64 (P.dk : Int)) (.int .i64 (P.n : Int)) (.bool false) (.slice none 0 0) (.string P.s) (.slice none 0 0) (.slice none 0 0) (.int .i64 (P.er : Int))
      clear f0 f1 f2 f3 f4 f5 f6 f7 f8 f9 f10 d0 d1 d2 d3 d4 d5 d6 d7 d8 d9 d10
      generalize (((((((((((w2.setCell ⟨w.heap.size, 0, none⟩ (.int .i64 (P.x : Int))).setCell ⟨w.heap.size, 1, none⟩ (.int .i64 (P.y : Int))).setCell ⟨w.heap.size, 2, none⟩ (.int .i64 (P.k : Int))).setCell ⟨w.heap.size, 3, none⟩ (.int .i64 (P.dk : Int))).setCell ⟨w.heap.size, 4, none⟩ (.int .i64 (P.n : Int))).setCell ⟨w.heap.size, 5, none⟩ (.bool false)).setCell ⟨w.heap.size, 6, none⟩ (.slice none 0 0)).setCell ⟨w.heap.size, 7, none⟩ (.string P.s)).setCell ⟨w.heap.size, 8, none⟩ (.slice none 0 0)).setCell ⟨w.heap.size, 9, none⟩ (.slice none 0 0)).setCell ⟨w.heap.size, 10, none⟩ (.int .i64 (P.er : Int))) = W4 at *
      obtain ⟨d0, d1, d2, d3, d4, d5, d6, d7, d8, d9, d10⟩ := cells11 q1
      refine bodyPost_ret (by simp [results, Tryd.results43, go_sem, d0, d1, d2, d3, d4, d5, d6, d7, d8, d9, d10]; rfl) rfl ?_
      obtain ⟨-, uA, hlt, hsz⟩ := HG.out
      exact ⟨by simp [pcP, pcV], ⟨q2.up H2.out.up hsz, H2.out.ge, q2.old (Nat.ne_of_lt hlt) H2.out.cs⟩, Kr.join uA HK2.out q2 (Nat.le_refl _)⟩
  rw [if_neg p1]
  have p1' : Lib.hasPrefix r.data.toList [35, 124] = false := by simpa using p1
  rw [p1'] at K1
  by_cases p2 : Lib.hasPrefix r.data.toList [35, 59] = true
  · rw [if_pos p2]
    rw [p2] at K2
    have KT := KT 2 2 (by omega)
    generalize tkP a 2 2 = P at *
    have HS := hide KT
    have G1 := hide K1
    have G2 := hide K2
    clear h uA hA gA hlt hsz K1 K2 K3 K4 KC KU KT KL KO z0 p1 p1' p2 ht
    unfold zer11 at HG c0 c1 HS
    unfold pcP pcV at HS
    go_enter Tryd.func43, Tryd.ntmps43
    go_wp2_with (first
      | (go_at_call 42; (first | refine (G1.out _).mono ?_ | refine (G2.out _).mono ?_); rintro e w1 ⟨rfl, rfl⟩)
      | (go_at_call 40; refine HS.out.mono ?_; rintro e w2 ⟨rfl, h2, k2⟩; clear c0 c1; have g2 := k2.old (Nat.ne_of_gt HG.out.2.2.1) HG.out.1; obtain ⟨f0, f1, f2, f3, f4, f5, f6, f7, f8, f9, f10⟩ := frozen11 g2; obtain ⟨d0, d1, d2, d3, d4, d5, d6, d7, d8, d9, d10⟩ := cells11 g2; have H2 := hide h2; have HK2 := hide k2; have HG2 := hide g2; clear h2 k2 g2))
    obtain ⟨q1, q2⟩ := sto11 HG2.out (.int .i64 (P.x : Int)) (.int .i64 (P.y : Int)) (.int .i64 (P.k : Int)) (.int .i64 (P.dk : Int)) (.int .i64 (P.n : Int)) (.bool false) (.slice none 0 0) (.string P.s) (.slice none 0 0) (.slice none 0 0) (.int .i64 (P.er : Int))
    clear f0 f1 f2 f3 f4 f5 f6 f7 f8 f9 f10 d0 d1 d2 d3 d4 d5 d6 d7 d8 d9 d10
    generalize (((((((((((w2.setCell ⟨w.heap.size, 0, none⟩ (.int .i64 (P.x : Int))).setCell ⟨w.heap.size, 1, none⟩ (.int .i64 (P.y : Int))).setCell ⟨w.heap.size, 2, none⟩ (.int .i64 (P.k : Int))).setCell ⟨w.heap.size, 3, none⟩ (.int .i64 (P.dk : Int))).setCell ⟨w.heap.size, 4, none⟩ (.int .i64 (P.n : Int))).setCell ⟨w.heap.size, 5, none⟩ (.bool false)).setCell ⟨w.heap.size, 6, none⟩ (.slice none 0 0)).setCell ⟨w.heap.size, 7, none⟩ (.string P.s)).setCell ⟨w.heap.size, 8, none⟩ (.slice none 0 0)).setCell ⟨w.heap.size, 9, none⟩ (.slice none 0 0)).setCell ⟨w.heap.size, 10, none⟩ (.int .i64 (P.er : Int))) = W4 at *
    obtain ⟨d0, d1, d2, d3, d4, d5, d6, d7, d8, d9, d10⟩ := cells11 q1
    refine bodyPost_ret (by simp [results, Tryd.results43, go_sem, d0, d1, d2, d3, d4, d5, d6, d7, d8, d9, d10]; rfl) rfl ?_
    obtain ⟨-, uA, hlt, hsz⟩ := HG.out
    exact ⟨by simp [pcP, pcV], ⟨q2.up H2.out.up hsz, H2.out.ge, q2.old (Nat.ne_of_lt hlt) H2.out.cs⟩, Kr.join uA HK2.out q2 (Nat.le_refl _)⟩
  rw [if_neg p2]
  have p2' : Lib.hasPrefix r.data.toList [35, 59] = false := by simpa using p2
  rw [p2'] at K2
  by_cases p3 : Lib.hasPrefix r.data.toList [35, 40] = true
  · rw [if_pos p3]
    rw [p3] at K3
    have KT := KT 2 3 (by omega)
    generalize tkP a 2 3 = P at *
    have HS := hide KT
    have G1 := hide K1
    have G2 := hide K2
    have G3 := hide K3
    clear h uA hA gA hlt hsz K1 K2 K3 K4 KC KU KT KL KO z0 p1 p1' p2 p2' p3 ht
    unfold zer11 at HG c0 c1 HS
    unfold pcP pcV at HS
    go_enter Tryd.func43, Tryd.ntmps43
    go_wp2_with (first
      | (go_at_call 42; (first | refine (G1.out _).mono ?_ | refine (G2.out _).mono ?_ | refine (G3.out _).mono ?_); rintro e w1 ⟨rfl, rfl⟩)
      | (go_at_call 40; refine HS.out.mono ?_; rintro e w2 ⟨rfl, h2, k2⟩; clear c0 c1; have g2 := k2.old (Nat.ne_of_gt HG.out.2.2.1) HG.out.1; obtain ⟨f0, f1, f2, f3, f4, f5, f6, f7, f8, f9, f10⟩ := frozen11 g2; obtain ⟨d0, d1, d2, d3, d4, d5, d6, d7, d8, d9, d10⟩ := cells11 g2; have H2 := hide h2; have HK2 := hide k2; have HG2 := hide g2; clear h2 k2 g2))
    obtain ⟨q1, q2⟩ := sto11 HG2.out (.int .i64 (P.x : Int)) (.int .i64 (P.y : Int)) (.int .i64 (P.k : Int)) (.int .i64 (P.dk : Int)) (.int .i64 (P.n : Int)) (.bool false) (.slice none 0 0) (.string P.s) (.slice none 0 0) (.slice none 0 0) (.int .i64 (P.er : Int))
    clear f0 f1 f2 f3 f4 f5 f6 f7 f8 f9 f10 d0 d1 d2 d3 d4 d5 d6 d7 d8 d9 d10
    generalize (((((((((((w2.setCell ⟨w.heap.size, 0, none⟩ (.int .i64 (P.x : Int))).setCell ⟨w.heap.size, 1, none⟩ (.int .i64 (P.y : Int))).setCell ⟨w.heap.size, 2, none⟩ (.int .i64 (P.k : Int))).setCell ⟨w.heap.size, 3, none⟩ (.int .i64 (P.dk : Int))).setCell ⟨w.heap.size, 4, none⟩ (.int .i64 (P.n : Int))).setCell ⟨w.heap.size, 5, none⟩ (.bool false)).setCell ⟨w.heap.size, 6, none⟩ (.slice none 0 0)).setCell ⟨w.heap.size, 7, none⟩ (.string P.s)).setCell ⟨w.heap.size, 8, none⟩ (.slice none 0 0)).setCell ⟨w.heap.size, 9, none⟩ (.slice none 0 0)).setCell ⟨w.heap.size, 10, none⟩ (.int .i64 (P.er : Int))) = W4 at *
    obtain ⟨d0, d1, d2, d3, d4, d5, d6, d7, d8, d9, d10⟩ := cells11 q1
    refine bodyPost_ret (by simp [results, Tryd.results43, go_sem, d0, d1, d2, d3, d4, d5, d6, d7, d8, d9, d10]; rfl) rfl ?_
    obtain ⟨-, uA, hlt, hsz⟩ := HG.out
    exact ⟨by simp [pcP, pcV], ⟨q2.up H2.out.up hsz, H2.out.ge, q2.old (Nat.ne_of_lt hlt) H2.out.cs⟩, Kr.join uA HK2.out q2 (Nat.le_refl _)⟩
  rw [if_neg p3]
  have p3' : Lib.hasPrefix r.data.toList [35, 40] = false := by simpa using p3
  rw [p3'] at K3
  by_cases p4 : Lib.hasPrefix r.data.toList [35, 92] = true
  · rw [if_pos p4, z0]
    rw [p4] at K4
    obtain ⟨m, hm⟩ : ∃ m, m = min 3 r.size := ⟨_, rfl⟩
    have hm1 : m ≤ r.size := by omega
    rw [← hm]
    have KL := fun W => KL W m hm1
    have e3 := ext_list r m hm1
    rw [e3] at KL
    have hLL := tokL_le (r.data.toList.drop m)
    rw [List.length_drop, z0] at hLL
    generalize tokL (r.data.toList.drop m) = L at *
    have KT := KT (m + L) 7 (by omega)
    generalize tkP a (m + L) 7 = P at *
    have HS := hide KT
    rw [Int.natCast_add] at HS
    have HL := hide KL
    have sI : min (3 : Int) (r.size : Int) = (m : Int) := by omega
    have mI : (m : Int) ≤ (r.size : Int) := by omega
    have LI : (L : Int) ≤ 1000000000 := by omega
    have mI2 : (m : Int) ≤ 3 := by omega
    have G1 := hide K1
    have G2 := hide K2
    have G3 := hide K3
    have G4 := hide K4
    clear h uA hA gA hlt hsz K1 K2 K3 K4 KC KU KT KL KO z0 p1 p1' p2 p2' p3 p3' p4 ht e3 hLL hm
    unfold zer11 at HG c0 c1 HS
    unfold pcP pcV at HS
    go_enter Tryd.func43, Tryd.ntmps43
    go_wp2_with (first
      | (go_at_call 42; (first | refine (G1.out _).mono ?_ | refine (G2.out _).mono ?_ | refine (G3.out _).mono ?_ | refine (G4.out _).mono ?_); rintro e w1 ⟨rfl, rfl⟩)
      | (go_at_call 62; refine (HL.out _).mono ?_; rintro e w1 ⟨rfl, rfl⟩)
      | (go_at_call 40; refine HS.out.mono ?_; rintro e w2 ⟨rfl, h2, k2⟩; clear c0 c1; have g2 := k2.old (Nat.ne_of_gt HG.out.2.2.1) HG.out.1; obtain ⟨f0, f1, f2, f3, f4, f5, f6, f7, f8, f9, f10⟩ := frozen11 g2; obtain ⟨d0, d1, d2, d3, d4, d5, d6, d7, d8, d9, d10⟩ := cells11 g2; have H2 := hide h2; have HK2 := hide k2; have HG2 := hide g2; clear h2 k2 g2))
    obtain ⟨q1, q2⟩ := sto11 HG2.out (.int .i64 (P.x : Int)) (.int .i64 (P.y : Int)) (.int .i64 (P.k : Int)) (.int .i64 (P.dk : Int)) (.int .i64 (P.n : Int)) (.bool false) (.slice none 0 0) (.string P.s) (.slice none 0 0) (.slice none 0 0) (.int .i64 (P.er : Int))
    clear f0 f1 f2 f3 f4 f5 f6 f7 f8 f9 f10 d0 d1 d2 d3 d4 d5 d6 d7 d8 d9 d10
    generalize (((((((((((w2.setCell ⟨w.heap.size, 0, none⟩ (.int .i64 (P.x : Int))).setCell ⟨w.heap.size, 1, none⟩ (.int .i64 (P.y : Int))).setCell ⟨w.heap.size, 2, none⟩ (.int .i64 (P.k : Int))).setCell ⟨w.heap.size, 3, none⟩ (.int .i64 (P.dk : Int))).setCell ⟨w.heap.size, 4, none⟩ (.int .i64 (P.n : Int))).setCell ⟨w.heap.size, 5, none⟩ (.bool false)).setCell ⟨w.heap.size, 6, none⟩ (.slice none 0 0)).setCell ⟨w.heap.size, 7, none⟩ (.string P.s)).setCell ⟨w.heap.size, 8, none⟩ (.slice none 0 0)).setCell ⟨w.heap.size, 9, none⟩ (.slice none 0 0)).setCell ⟨w.heap.size, 10, none⟩ (.int .i64 (P.er : Int))) = W4 at *
    obtain ⟨d0, d1, d2, d3, d4, d5, d6, d7, d8, d9, d10⟩ := cells11 q1
    refine bodyPost_ret (by simp [results, Tryd.results43, go_sem, d0, d1, d2, d3, d4, d5, d6, d7, d8, d9, d10]; rfl) rfl ?_
    obtain ⟨-, uA, hlt, hsz⟩ := HG.out
    exact ⟨by simp [pcP, pcV], ⟨q2.up H2.out.up hsz, H2.out.ge, q2.old (Nat.ne_of_lt hlt) H2.out.cs⟩, Kr.join uA HK2.out q2 (Nat.le_refl _)⟩
  rw [if_neg p4]
  have p4' : Lib.hasPrefix r.data.toList [35, 92] = false := by simpa using p4
  rw [p4'] at K4
  generalize tokP a r.data.toList = P at *
  have HS := hide KO
  have G1 := hide K1
  have G2 := hide K2
  have G3 := hide K3
  have G4 := hide K4
  clear h uA hA gA hlt hsz K1 K2 K3 K4 KC KU KT KL KO z0 p1 p1' p2 p2' p3 p3' p4 p4' ht
  unfold zer11 at HG c0 c1 HS
  unfold pcP pcV at HS
  go_enter Tryd.func43, Tryd.ntmps43
  go_wp2_with (first
    | (go_at_call 42; (first | refine (G1.out _).mono ?_ | refine (G2.out _).mono ?_ | refine (G3.out _).mono ?_ | refine (G4.out _).mono ?_); rintro e w1 ⟨rfl, rfl⟩)
    | (go_at_call 44; refine HS.out.mono ?_; rintro e w2 ⟨rfl, h2, k2⟩; clear c0 c1; have g2 := k2.old (Nat.ne_of_gt HG.out.2.2.1) HG.out.1; obtain ⟨f0, f1, f2, f3, f4, f5, f6, f7, f8, f9, f10⟩ := frozen11 g2; obtain ⟨d0, d1, d2, d3, d4, d5, d6, d7, d8, d9, d10⟩ := cells11 g2; have H2 := hide h2; have HK2 := hide k2; have HG2 := hide g2; clear h2 k2 g2))
  obtain ⟨q1, q2⟩ := sto11 HG2.out (.int .i64 (P.x : Int)) (.int .i64 (P.y : Int)) (.int .i64 (P.k : Int)) (.int .i64 (P.dk : Int)) (.int .i64 (P.n : Int)) (.bool false) (.slice none 0 0) (.string P.s) (.slice none 0 0) (.slice none 0 0) (.int .i64 (P.er : Int))
  clear f0 f1 f2 f3 f4 f5 f6 f7 f8 f9 f10 d0 d1 d2 d3 d4 d5 d6 d7 d8 d9 d10
  generalize (((((((((((w2.setCell ⟨w.heap.size, 0, none⟩ (.int .i64 (P.x : Int))).setCell ⟨w.heap.size, 1, none⟩ (.int .i64 (P.y : Int))).setCell ⟨w.heap.size, 2, none⟩ (.int .i64 (P.k : Int))).setCell ⟨w.heap.size, 3, none⟩ (.int .i64 (P.dk : Int))).setCell ⟨w.heap.size, 4, none⟩ (.int .i64 (P.n : Int))).setCell ⟨w.heap.size, 5, none⟩ (.bool false)).setCell ⟨w.heap.size, 6, none⟩ (.slice none 0 0)).setCell ⟨w.heap.size, 7, none⟩ (.string P.s)).setCell ⟨w.heap.size, 8, none⟩ (.slice none 0 0)).setCell ⟨w.heap.size, 9, none⟩ (.slice none 0 0)).setCell ⟨w.heap.size, 10, none⟩ (.int .i64 (P.er : Int))) = W4 at *
  obtain ⟨d0, d1, d2, d3, d4, d5, d6, d7, d8, d9, d10⟩ := cells11 q1
  refine bodyPost_ret (by simp [results, Tryd.results43, go_sem, d0, d1, d2, d3, d4, d5, d6, d7, d8, d9, d10]; rfl) rfl ?_
  obtain ⟨-, uA, hlt, hsz⟩ := HG.out
  exact ⟨by simp [pcP, pcV], ⟨q2.up H2.out.up hsz, H2.out.ge, q2.old (Nat.ne_of_lt hlt) H2.out.cs⟩, Kr.join uA HK2.out q2 (Nat.le_refl _)⟩

end Go.Proofs.YteipogfolnlblaaDoor
