/-
  What is proved here: package read's piece.
-/
import Derived.Test.YteipogfolnlblaaDoorWRW
import Derived.Test.YteipogfolnlblaaDoorWR2
namespace Go.Proofs.YteipogfolnlblaaDoor
open Go Go.RowKit
/-- What stands next; n is the text's length, l what is left. -/
def pieceP (n a : Nat) (l : List UInt8) : LP :=
  match l with
  | [] => tkP a 0 0
  | c :: _ =>
    if c = 32 ∨ c = 9 ∨ c = 10 ∨ c = 13 then tkP a 1 1
    else if c = 59 then tkP a (lineL l) 1
    else if c = 40 then tkP a 1 3
    else if c = 41 then tkP a 1 4
    else if c = 34 then tkP a 1 6
    else if c = 39 ∨ c = 96 then tkP a 1 5
    else if c = 44 then (if Lib.hasPrefix l [44, 64] = true then tkP a 2 5 else tkP a 1 5)
    else if c = 35 then shP n a l
    else tokP a l

theorem lineL_le (l : List UInt8) : lineL l ≤ l.length := by
  unfold lineL
  split
  · have := idx_lt l 10; omega
  · omega

theorem not_int {c : UInt8} {k : Nat} (h : ¬ c.toNat = k) : ¬ ((c.toNat : Int) = (k : Int)) := by omega

set_option maxHeartbeats 16000000 in
set_option maxRecDepth 100000 in
theorem piece_P (w0 : World) (rb : Nat) (t : ByteArray) (a d : Nat) (w : World) (h : RS w0 rb t a d w) (ht : t.size ≤ 100000000) (hat : a ≤ t.size) :
    Calls Tryd.prog 27 #[.pointer (some ⟨rb, 0, none⟩)] w fun e w' => e = .returned (pcP (pieceP t.size a (t.data.toList.drop a))) ∧ RS w0 rb t (pieceP t.size a (t.data.toList.drop a)).a d w' ∧ Kr rb w w' := by
  have uA := up_alloc w zer11
  have hA : RS w0 rb t a d (w.alloc zer11) := ⟨h.up.tr uA, h.ge, uA.old h.cs⟩
  have gA : (w.alloc zer11).heap[w.heap.size]? = some zer11 := heap_alloc_new w zer11
  have hlt := h.lt
  have hsz : w0.heap.size ≤ w.heap.size := h.up.size
  have c0 : (w.alloc zer11).cell? ⟨rb, 0, none⟩ = some (.string t) := cell_of_row _ rb 0 _ _ _ hA.cs
  have c1 : (w.alloc zer11).cell? ⟨rb, 1, none⟩ = some (.int .i64 a) := cell_of_row _ rb 1 _ _ _ hA.cs
  have hD : RS w0 rb t a d (w.alloc zer11).drew := ⟨hA.up.tr (up_drew _), hA.ge, hA.cs⟩
  have er := ext_list t a hat
  have r0 : (t.extract a t.size).size = t.size - a := by simp
  have KT := fun (L k : Nat) (hL : a + L ≤ 9000000000) => take_P w0 rb t a d L k _ hD (by omega)
  have KH := sharp_P w0 rb t a d (t.extract a t.size) _ hD ht (by omega)
  have KO := token_P w0 rb t a d (t.extract a t.size) _ hD (by omega)
  have KL := fun (W : World) => line_any (t.extract a t.size) W
  have KP := fun (W : World) => prefix_any (t.extract a t.size) ⟨#[44, 64]⟩ W
  rw [show (⟨#[44, 64]⟩ : ByteArray).data.toList = [44, 64] from rfl] at KP
  rw [er] at KH KO KL KP
  have HG := hide (And.intro gA (And.intro uA (And.intro hlt hsz)))
  have aI : (a : Int) ≤ (t.size : Int) := by omega
  have hll : (t.data.toList.drop a).length = t.size - a := by rw [List.length_drop, bytes_len]
  match hl : t.data.toList.drop a with
  | [] =>
    rw [hl] at er hll
    simp only [List.length_nil] at hll
    show Calls _ _ _ _ (fun e w' => e = .returned (pcP (tkP a 0 0)) ∧ RS w0 rb t (tkP a 0 0).a d w' ∧ Kr rb w w')
    have KT := KT 0 0 (by omega)
    generalize tkP a 0 0 = P at *
    have HS := hide KT
    have HR := hide (show (t.extract a t.size).toList = [] from by rw [ByteArray.toList_eq, er])
    clear h uA hA gA hlt hsz hD KT KH KO KL KP er r0 hl hll
    unfold zer11 at HG c0 c1 HS
    unfold pcP pcV at HS
    go_enter Tryd.func27, Tryd.ntmps27
    go_wp2_with fail
    go_region
    have r3 := HR.out
    clear HR
    generalize t.extract a t.size = r at *
    have s1 : (r.toList == []) = true := by simpa using r3
    clear r3
    go_wp2_with (go_at_call 40; refine HS.out.mono ?_; rintro e w2 ⟨rfl, h2, k2⟩; clear c0 c1; have g2 := k2.old (Nat.ne_of_gt HG.out.2.2.1) HG.out.1; obtain ⟨f0, f1, f2, f3, f4, f5, f6, f7, f8, f9, f10⟩ := frozen11 g2; obtain ⟨d0, d1, d2, d3, d4, d5, d6, d7, d8, d9, d10⟩ := cells11 g2; have H2 := hide h2; have HK2 := hide k2; have HG2 := hide g2; clear h2 k2 g2)
    obtain ⟨q1, q2⟩ := sto11 HG2.out (.int .i64 (P.x : Int)) (.int .i64 (P.y : Int)) (.int .i64 (P.k : Int)) (.int .i64 (P.dk : Int)) (.int .i64 (P.n : Int)) (.bool false) (.slice none 0 0) (.string P.s) (.slice none 0 0) (.slice none 0 0) (.int .i64 (P.er : Int))
    clear f0 f1 f2 f3 f4 f5 f6 f7 f8 f9 f10 d0 d1 d2 d3 d4 d5 d6 d7 d8 d9 d10
    generalize (((((((((((w2.setCell ⟨w.heap.size, 0, none⟩ (.int .i64 (P.x : Int))).setCell ⟨w.heap.size, 1, none⟩ (.int .i64 (P.y : Int))).setCell ⟨w.heap.size, 2, none⟩ (.int .i64 (P.k : Int))).setCell ⟨w.heap.size, 3, none⟩ (.int .i64 (P.dk : Int))).setCell ⟨w.heap.size, 4, none⟩ (.int .i64 (P.n : Int))).setCell ⟨w.heap.size, 5, none⟩ (.bool false)).setCell ⟨w.heap.size, 6, none⟩ (.slice none 0 0)).setCell ⟨w.heap.size, 7, none⟩ (.string P.s)).setCell ⟨w.heap.size, 8, none⟩ (.slice none 0 0)).setCell ⟨w.heap.size, 9, none⟩ (.slice none 0 0)).setCell ⟨w.heap.size, 10, none⟩ (.int .i64 (P.er : Int))) = W4 at *
    obtain ⟨d0, d1, d2, d3, d4, d5, d6, d7, d8, d9, d10⟩ := cells11 q1
    refine bodyPost_ret (by simp [results, Tryd.results27, go_sem, d0, d1, d2, d3, d4, d5, d6, d7, d8, d9, d10]; rfl) rfl ?_
    obtain ⟨-, uA, hlt, hsz⟩ := HG.out
    exact ⟨by simp [pcP, pcV], ⟨q2.up H2.out.up hsz, H2.out.ge, q2.old (Nat.ne_of_lt hlt) H2.out.cs⟩, Kr.join uA ((Kr.of_up (up_drew _)).tr HK2.out) q2 (Nat.le_refl _)⟩
  | c :: l =>
    rw [hl] at er hll KH KO KL KP
    simp only [List.length_cons] at hll
    have r1 : 0 < (t.extract a t.size).size := by omega
    have r2 : (t.extract a t.size)[0] = c := by
      have : (t.extract a t.size).data.toList[0]? = some c := by rw [er]; rfl
      have hh : 0 < (t.extract a t.size).data.toList.length := by rw [bytes_len]; omega
      rw [List.getElem?_eq_getElem hh] at this
      simpa [ByteArray.getElem_eq_getElem_data] using this
    have r3 : (t.extract a t.size).toList ≠ [] := by rw [ByteArray.toList_eq, er]; simp
    have HR := hide (show (t.extract a t.size).toList ≠ [] ∧ ∃ hh : 0 < (t.extract a t.size).size, (t.extract a t.size)[0]'hh = c from ⟨r3, r1, r2⟩)
    have hLl := lineL_le (c :: l)
    simp only [List.length_cons] at hLl
    unfold pieceP
    simp only []
    clear r1 r2 r3 er
    by_cases b1 : c = 32 ∨ c = 9 ∨ c = 10 ∨ c = 13
    · rw [if_pos b1]
      rcases b1 with rfl | rfl | rfl | rfl
      · have KT := KT (1) 1 (by omega)
        generalize tkP a (1) 1 = P at *
        have HS := hide KT
        clear h uA hA gA hlt hsz hD KT KH KO KL KP r0 hl hll hLl hat 
        unfold zer11 at HG c0 c1 HS
        unfold pcP pcV at HS
        go_enter Tryd.func27, Tryd.ntmps27
        go_wp2_with fail
        go_region
        obtain ⟨r3, r1, r2⟩ := HR.out
        clear HR
        generalize t.extract a t.size = r at *
        have s1 : (r.toList == []) = false := by simpa using r3
        have s2 : (0 : Int) < (r.size : Int) := by omega
        clear r3
        go_wp2_with (first
          | (go_at_call 40; refine HS.out.mono ?_; rintro e w2 ⟨rfl, h2, k2⟩; clear c0 c1; have g2 := k2.old (Nat.ne_of_gt HG.out.2.2.1) HG.out.1; obtain ⟨f0, f1, f2, f3, f4, f5, f6, f7, f8, f9, f10⟩ := frozen11 g2; obtain ⟨d0, d1, d2, d3, d4, d5, d6, d7, d8, d9, d10⟩ := cells11 g2; have H2 := hide h2; have HK2 := hide k2; have HG2 := hide g2; clear h2 k2 g2))
        obtain ⟨q1, q2⟩ := sto11 HG2.out (.int .i64 (P.x : Int)) (.int .i64 (P.y : Int)) (.int .i64 (P.k : Int)) (.int .i64 (P.dk : Int)) (.int .i64 (P.n : Int)) (.bool false) (.slice none 0 0) (.string P.s) (.slice none 0 0) (.slice none 0 0) (.int .i64 (P.er : Int))
        clear f0 f1 f2 f3 f4 f5 f6 f7 f8 f9 f10 d0 d1 d2 d3 d4 d5 d6 d7 d8 d9 d10
        generalize (((((((((((w2.setCell ⟨w.heap.size, 0, none⟩ (.int .i64 (P.x : Int))).setCell ⟨w.heap.size, 1, none⟩ (.int .i64 (P.y : Int))).setCell ⟨w.heap.size, 2, none⟩ (.int .i64 (P.k : Int))).setCell ⟨w.heap.size, 3, none⟩ (.int .i64 (P.dk : Int))).setCell ⟨w.heap.size, 4, none⟩ (.int .i64 (P.n : Int))).setCell ⟨w.heap.size, 5, none⟩ (.bool false)).setCell ⟨w.heap.size, 6, none⟩ (.slice none 0 0)).setCell ⟨w.heap.size, 7, none⟩ (.string P.s)).setCell ⟨w.heap.size, 8, none⟩ (.slice none 0 0)).setCell ⟨w.heap.size, 9, none⟩ (.slice none 0 0)).setCell ⟨w.heap.size, 10, none⟩ (.int .i64 (P.er : Int))) = W4 at *
        obtain ⟨d0, d1, d2, d3, d4, d5, d6, d7, d8, d9, d10⟩ := cells11 q1
        refine bodyPost_ret (by simp [results, Tryd.results27, go_sem, d0, d1, d2, d3, d4, d5, d6, d7, d8, d9, d10]; rfl) rfl ?_
        obtain ⟨-, uA, hlt, hsz⟩ := HG.out
        exact ⟨by simp [pcP, pcV], ⟨q2.up H2.out.up hsz, H2.out.ge, q2.old (Nat.ne_of_lt hlt) H2.out.cs⟩, Kr.join uA ((Kr.of_up (up_drew _)).tr HK2.out) q2 (Nat.le_refl _)⟩
      · have KT := KT (1) 1 (by omega)
        generalize tkP a (1) 1 = P at *
        have HS := hide KT
        clear h uA hA gA hlt hsz hD KT KH KO KL KP r0 hl hll hLl hat 
        unfold zer11 at HG c0 c1 HS
        unfold pcP pcV at HS
        go_enter Tryd.func27, Tryd.ntmps27
        go_wp2_with fail
        go_region
        obtain ⟨r3, r1, r2⟩ := HR.out
        clear HR
        generalize t.extract a t.size = r at *
        have s1 : (r.toList == []) = false := by simpa using r3
        have s2 : (0 : Int) < (r.size : Int) := by omega
        clear r3
        go_wp2_with (first
          | (go_at_call 40; refine HS.out.mono ?_; rintro e w2 ⟨rfl, h2, k2⟩; clear c0 c1; have g2 := k2.old (Nat.ne_of_gt HG.out.2.2.1) HG.out.1; obtain ⟨f0, f1, f2, f3, f4, f5, f6, f7, f8, f9, f10⟩ := frozen11 g2; obtain ⟨d0, d1, d2, d3, d4, d5, d6, d7, d8, d9, d10⟩ := cells11 g2; have H2 := hide h2; have HK2 := hide k2; have HG2 := hide g2; clear h2 k2 g2))
        obtain ⟨q1, q2⟩ := sto11 HG2.out (.int .i64 (P.x : Int)) (.int .i64 (P.y : Int)) (.int .i64 (P.k : Int)) (.int .i64 (P.dk : Int)) (.int .i64 (P.n : Int)) (.bool false) (.slice none 0 0) (.string P.s) (.slice none 0 0) (.slice none 0 0) (.int .i64 (P.er : Int))
        clear f0 f1 f2 f3 f4 f5 f6 f7 f8 f9 f10 d0 d1 d2 d3 d4 d5 d6 d7 d8 d9 d10
        generalize (((((((((((w2.setCell ⟨w.heap.size, 0, none⟩ (.int .i64 (P.x : Int))).setCell ⟨w.heap.size, 1, none⟩ (.int .i64 (P.y : Int))).setCell ⟨w.heap.size, 2, none⟩ (.int .i64 (P.k : Int))).setCell ⟨w.heap.size, 3, none⟩ (.int .i64 (P.dk : Int))).setCell ⟨w.heap.size, 4, none⟩ (.int .i64 (P.n : Int))).setCell ⟨w.heap.size, 5, none⟩ (.bool false)).setCell ⟨w.heap.size, 6, none⟩ (.slice none 0 0)).setCell ⟨w.heap.size, 7, none⟩ (.string P.s)).setCell ⟨w.heap.size, 8, none⟩ (.slice none 0 0)).setCell ⟨w.heap.size, 9, none⟩ (.slice none 0 0)).setCell ⟨w.heap.size, 10, none⟩ (.int .i64 (P.er : Int))) = W4 at *
        obtain ⟨d0, d1, d2, d3, d4, d5, d6, d7, d8, d9, d10⟩ := cells11 q1
        refine bodyPost_ret (by simp [results, Tryd.results27, go_sem, d0, d1, d2, d3, d4, d5, d6, d7, d8, d9, d10]; rfl) rfl ?_
        obtain ⟨-, uA, hlt, hsz⟩ := HG.out
        exact ⟨by simp [pcP, pcV], ⟨q2.up H2.out.up hsz, H2.out.ge, q2.old (Nat.ne_of_lt hlt) H2.out.cs⟩, Kr.join uA ((Kr.of_up (up_drew _)).tr HK2.out) q2 (Nat.le_refl _)⟩
      · have KT := KT (1) 1 (by omega)
        generalize tkP a (1) 1 = P at *
        have HS := hide KT
        clear h uA hA gA hlt hsz hD KT KH KO KL KP r0 hl hll hLl hat 
        unfold zer11 at HG c0 c1 HS
        unfold pcP pcV at HS
        go_enter Tryd.func27, Tryd.ntmps27
        go_wp2_with fail
        go_region
        obtain ⟨r3, r1, r2⟩ := HR.out
        clear HR
        generalize t.extract a t.size = r at *
        have s1 : (r.toList == []) = false := by simpa using r3
        have s2 : (0 : Int) < (r.size : Int) := by omega
        clear r3
        go_wp2_with (first
          | (go_at_call 40; refine HS.out.mono ?_; rintro e w2 ⟨rfl, h2, k2⟩; clear c0 c1; have g2 := k2.old (Nat.ne_of_gt HG.out.2.2.1) HG.out.1; obtain ⟨f0, f1, f2, f3, f4, f5, f6, f7, f8, f9, f10⟩ := frozen11 g2; obtain ⟨d0, d1, d2, d3, d4, d5, d6, d7, d8, d9, d10⟩ := cells11 g2; have H2 := hide h2; have HK2 := hide k2; have HG2 := hide g2; clear h2 k2 g2))
        obtain ⟨q1, q2⟩ := sto11 HG2.out (.int .i64 (P.x : Int)) (.int .i64 (P.y : Int)) (.int .i64 (P.k : Int)) (.int .i64 (P.dk : Int)) (.int .i64 (P.n : Int)) (.bool false) (.slice none 0 0) (.string P.s) (.slice none 0 0) (.slice none 0 0) (.int .i64 (P.er : Int))
        clear f0 f1 f2 f3 f4 f5 f6 f7 f8 f9 f10 d0 d1 d2 d3 d4 d5 d6 d7 d8 d9 d10
        generalize (((((((((((w2.setCell ⟨w.heap.size, 0, none⟩ (.int .i64 (P.x : Int))).setCell ⟨w.heap.size, 1, none⟩ (.int .i64 (P.y : Int))).setCell ⟨w.heap.size, 2, none⟩ (.int .i64 (P.k : Int))).setCell ⟨w.heap.size, 3, none⟩ (.int .i64 (P.dk : Int))).setCell ⟨w.heap.size, 4, none⟩ (.int .i64 (P.n : Int))).setCell ⟨w.heap.size, 5, none⟩ (.bool false)).setCell ⟨w.heap.size, 6, none⟩ (.slice none 0 0)).setCell ⟨w.heap.size, 7, none⟩ (.string P.s)).setCell ⟨w.heap.size, 8, none⟩ (.slice none 0 0)).setCell ⟨w.heap.size, 9, none⟩ (.slice none 0 0)).setCell ⟨w.heap.size, 10, none⟩ (.int .i64 (P.er : Int))) = W4 at *
        obtain ⟨d0, d1, d2, d3, d4, d5, d6, d7, d8, d9, d10⟩ := cells11 q1
        refine bodyPost_ret (by simp [results, Tryd.results27, go_sem, d0, d1, d2, d3, d4, d5, d6, d7, d8, d9, d10]; rfl) rfl ?_
        obtain ⟨-, uA, hlt, hsz⟩ := HG.out
        exact ⟨by simp [pcP, pcV], ⟨q2.up H2.out.up hsz, H2.out.ge, q2.old (Nat.ne_of_lt hlt) H2.out.cs⟩, Kr.join uA ((Kr.of_up (up_drew _)).tr HK2.out) q2 (Nat.le_refl _)⟩
      · have KT := KT (1) 1 (by omega)
        generalize tkP a (1) 1 = P at *
        have HS := hide KT
        clear h uA hA gA hlt hsz hD KT KH KO KL KP r0 hl hll hLl hat 
        unfold zer11 at HG c0 c1 HS
        unfold pcP pcV at HS
        go_enter Tryd.func27, Tryd.ntmps27
        go_wp2_with fail
        go_region
        obtain ⟨r3, r1, r2⟩ := HR.out
        clear HR
        generalize t.extract a t.size = r at *
        have s1 : (r.toList == []) = false := by simpa using r3
        have s2 : (0 : Int) < (r.size : Int) := by omega
        clear r3
        go_wp2_with (first
          | (go_at_call 40; refine HS.out.mono ?_; rintro e w2 ⟨rfl, h2, k2⟩; clear c0 c1; have g2 := k2.old (Nat.ne_of_gt HG.out.2.2.1) HG.out.1; obtain ⟨f0, f1, f2, f3, f4, f5, f6, f7, f8, f9, f10⟩ := frozen11 g2; obtain ⟨d0, d1, d2, d3, d4, d5, d6, d7, d8, d9, d10⟩ := cells11 g2; have H2 := hide h2; have HK2 := hide k2; have HG2 := hide g2; clear h2 k2 g2))
        obtain ⟨q1, q2⟩ := sto11 HG2.out (.int .i64 (P.x : Int)) (.int .i64 (P.y : Int)) (.int .i64 (P.k : Int)) (.int .i64 (P.dk : Int)) (.int .i64 (P.n : Int)) (.bool false) (.slice none 0 0) (.string P.s) (.slice none 0 0) (.slice none 0 0) (.int .i64 (P.er : Int))
        clear f0 f1 f2 f3 f4 f5 f6 f7 f8 f9 f10 d0 d1 d2 d3 d4 d5 d6 d7 d8 d9 d10
        generalize (((((((((((w2.setCell ⟨w.heap.size, 0, none⟩ (.int .i64 (P.x : Int))).setCell ⟨w.heap.size, 1, none⟩ (.int .i64 (P.y : Int))).setCell ⟨w.heap.size, 2, none⟩ (.int .i64 (P.k : Int))).setCell ⟨w.heap.size, 3, none⟩ (.int .i64 (P.dk : Int))).setCell ⟨w.heap.size, 4, none⟩ (.int .i64 (P.n : Int))).setCell ⟨w.heap.size, 5, none⟩ (.bool false)).setCell ⟨w.heap.size, 6, none⟩ (.slice none 0 0)).setCell ⟨w.heap.size, 7, none⟩ (.string P.s)).setCell ⟨w.heap.size, 8, none⟩ (.slice none 0 0)).setCell ⟨w.heap.size, 9, none⟩ (.slice none 0 0)).setCell ⟨w.heap.size, 10, none⟩ (.int .i64 (P.er : Int))) = W4 at *
        obtain ⟨d0, d1, d2, d3, d4, d5, d6, d7, d8, d9, d10⟩ := cells11 q1
        refine bodyPost_ret (by simp [results, Tryd.results27, go_sem, d0, d1, d2, d3, d4, d5, d6, d7, d8, d9, d10]; rfl) rfl ?_
        obtain ⟨-, uA, hlt, hsz⟩ := HG.out
        exact ⟨by simp [pcP, pcV], ⟨q2.up H2.out.up hsz, H2.out.ge, q2.old (Nat.ne_of_lt hlt) H2.out.cs⟩, Kr.join uA ((Kr.of_up (up_drew _)).tr HK2.out) q2 (Nat.le_refl _)⟩
    rw [if_neg b1]
    by_cases b2 : c = 59
    · rw [if_pos b2]
      subst b2
      generalize lineL (59 :: l) = L at *
      have HL := hide KL
      have KT := KT L 1 (by omega)
      generalize tkP a L 1 = P at *
      have HS := hide KT
      clear h uA hA gA hlt hsz hD KT KH KO KL KP r0 hl hll hLl hat b1
      unfold zer11 at HG c0 c1 HS
      unfold pcP pcV at HS
      go_enter Tryd.func27, Tryd.ntmps27
      go_wp2_with fail
      go_region
      obtain ⟨r3, r1, r2⟩ := HR.out
      clear HR
      generalize t.extract a t.size = r at *
      have s1 : (r.toList == []) = false := by simpa using r3
      have s2 : (0 : Int) < (r.size : Int) := by omega
      clear r3
      go_wp2_with (first
        | (go_at_call 41; refine (HL.out _).mono ?_; rintro e w1 ⟨rfl, rfl⟩)
        | (go_at_call 40; refine HS.out.mono ?_; rintro e w2 ⟨rfl, h2, k2⟩; clear c0 c1; have g2 := k2.old (Nat.ne_of_gt HG.out.2.2.1) HG.out.1; obtain ⟨f0, f1, f2, f3, f4, f5, f6, f7, f8, f9, f10⟩ := frozen11 g2; obtain ⟨d0, d1, d2, d3, d4, d5, d6, d7, d8, d9, d10⟩ := cells11 g2; have H2 := hide h2; have HK2 := hide k2; have HG2 := hide g2; clear h2 k2 g2))
      obtain ⟨q1, q2⟩ := sto11 HG2.out (.int .i64 (P.x : Int)) (.int .i64 (P.y : Int)) (.int .i64 (P.k : Int)) (.int .i64 (P.dk : Int)) (.int .i64 (P.n : Int)) (.bool false) (.slice none 0 0) (.string P.s) (.slice none 0 0) (.slice none 0 0) (.int .i64 (P.er : Int))
      clear f0 f1 f2 f3 f4 f5 f6 f7 f8 f9 f10 d0 d1 d2 d3 d4 d5 d6 d7 d8 d9 d10
      generalize (((((((((((w2.setCell ⟨w.heap.size, 0, none⟩ (.int .i64 (P.x : Int))).setCell ⟨w.heap.size, 1, none⟩ (.int .i64 (P.y : Int))).setCell ⟨w.heap.size, 2, none⟩ (.int .i64 (P.k : Int))).setCell ⟨w.heap.size, 3, none⟩ (.int .i64 (P.dk : Int))).setCell ⟨w.heap.size, 4, none⟩ (.int .i64 (P.n : Int))).setCell ⟨w.heap.size, 5, none⟩ (.bool false)).setCell ⟨w.heap.size, 6, none⟩ (.slice none 0 0)).setCell ⟨w.heap.size, 7, none⟩ (.string P.s)).setCell ⟨w.heap.size, 8, none⟩ (.slice none 0 0)).setCell ⟨w.heap.size, 9, none⟩ (.slice none 0 0)).setCell ⟨w.heap.size, 10, none⟩ (.int .i64 (P.er : Int))) = W4 at *
      obtain ⟨d0, d1, d2, d3, d4, d5, d6, d7, d8, d9, d10⟩ := cells11 q1
      refine bodyPost_ret (by simp [results, Tryd.results27, go_sem, d0, d1, d2, d3, d4, d5, d6, d7, d8, d9, d10]; rfl) rfl ?_
      obtain ⟨-, uA, hlt, hsz⟩ := HG.out
      exact ⟨by simp [pcP, pcV], ⟨q2.up H2.out.up hsz, H2.out.ge, q2.old (Nat.ne_of_lt hlt) H2.out.cs⟩, Kr.join uA ((Kr.of_up (up_drew _)).tr HK2.out) q2 (Nat.le_refl _)⟩
    rw [if_neg b2]
    by_cases b3 : c = 40
    · rw [if_pos b3]
      subst b3
      have KT := KT (1) 3 (by omega)
      generalize tkP a (1) 3 = P at *
      have HS := hide KT
      clear h uA hA gA hlt hsz hD KT KH KO KL KP r0 hl hll hLl hat b1 b2
      unfold zer11 at HG c0 c1 HS
      unfold pcP pcV at HS
      go_enter Tryd.func27, Tryd.ntmps27
      go_wp2_with fail
      go_region
      obtain ⟨r3, r1, r2⟩ := HR.out
      clear HR
      generalize t.extract a t.size = r at *
      have s1 : (r.toList == []) = false := by simpa using r3
      have s2 : (0 : Int) < (r.size : Int) := by omega
      clear r3
      go_wp2_with (first
        | (go_at_call 40; refine HS.out.mono ?_; rintro e w2 ⟨rfl, h2, k2⟩; clear c0 c1; have g2 := k2.old (Nat.ne_of_gt HG.out.2.2.1) HG.out.1; obtain ⟨f0, f1, f2, f3, f4, f5, f6, f7, f8, f9, f10⟩ := frozen11 g2; obtain ⟨d0, d1, d2, d3, d4, d5, d6, d7, d8, d9, d10⟩ := cells11 g2; have H2 := hide h2; have HK2 := hide k2; have HG2 := hide g2; clear h2 k2 g2))
      obtain ⟨q1, q2⟩ := sto11 HG2.out (.int .i64 (P.x : Int)) (.int .i64 (P.y : Int)) (.int .i64 (P.k : Int)) (.int .i64 (P.dk : Int)) (.int .i64 (P.n : Int)) (.bool false) (.slice none 0 0) (.string P.s) (.slice none 0 0) (.slice none 0 0) (.int .i64 (P.er : Int))
      clear f0 f1 f2 f3 f4 f5 f6 f7 f8 f9 f10 d0 d1 d2 d3 d4 d5 d6 d7 d8 d9 d10
      generalize (((((((((((w2.setCell ⟨w.heap.size, 0, none⟩ (.int .i64 (P.x : Int))).setCell ⟨w.heap.size, 1, none⟩ (.int .i64 (P.y : Int))).setCell ⟨w.heap.size, 2, none⟩ (.int .i64 (P.k : Int))).setCell ⟨w.heap.size, 3, none⟩ (.int .i64 (P.dk : Int))).setCell ⟨w.heap.size, 4, none⟩ (.int .i64 (P.n : Int))).setCell ⟨w.heap.size, 5, none⟩ (.bool false)).setCell ⟨w.heap.size, 6, none⟩ (.slice none 0 0)).setCell ⟨w.heap.size, 7, none⟩ (.string P.s)).setCell ⟨w.heap.size, 8, none⟩ (.slice none 0 0)).setCell ⟨w.heap.size, 9, none⟩ (.slice none 0 0)).setCell ⟨w.heap.size, 10, none⟩ (.int .i64 (P.er : Int))) = W4 at *
      obtain ⟨d0, d1, d2, d3, d4, d5, d6, d7, d8, d9, d10⟩ := cells11 q1
      refine bodyPost_ret (by simp [results, Tryd.results27, go_sem, d0, d1, d2, d3, d4, d5, d6, d7, d8, d9, d10]; rfl) rfl ?_
      obtain ⟨-, uA, hlt, hsz⟩ := HG.out
      exact ⟨by simp [pcP, pcV], ⟨q2.up H2.out.up hsz, H2.out.ge, q2.old (Nat.ne_of_lt hlt) H2.out.cs⟩, Kr.join uA ((Kr.of_up (up_drew _)).tr HK2.out) q2 (Nat.le_refl _)⟩
    rw [if_neg b3]
    by_cases b4 : c = 41
    · rw [if_pos b4]
      subst b4
      have KT := KT (1) 4 (by omega)
      generalize tkP a (1) 4 = P at *
      have HS := hide KT
      clear h uA hA gA hlt hsz hD KT KH KO KL KP r0 hl hll hLl hat b1 b2 b3
      unfold zer11 at HG c0 c1 HS
      unfold pcP pcV at HS
      go_enter Tryd.func27, Tryd.ntmps27
      go_wp2_with fail
      go_region
      obtain ⟨r3, r1, r2⟩ := HR.out
      clear HR
      generalize t.extract a t.size = r at *
      have s1 : (r.toList == []) = false := by simpa using r3
      have s2 : (0 : Int) < (r.size : Int) := by omega
      clear r3
      go_wp2_with (first
        | (go_at_call 40; refine HS.out.mono ?_; rintro e w2 ⟨rfl, h2, k2⟩; clear c0 c1; have g2 := k2.old (Nat.ne_of_gt HG.out.2.2.1) HG.out.1; obtain ⟨f0, f1, f2, f3, f4, f5, f6, f7, f8, f9, f10⟩ := frozen11 g2; obtain ⟨d0, d1, d2, d3, d4, d5, d6, d7, d8, d9, d10⟩ := cells11 g2; have H2 := hide h2; have HK2 := hide k2; have HG2 := hide g2; clear h2 k2 g2))
      obtain ⟨q1, q2⟩ := sto11 HG2.out (.int .i64 (P.x : Int)) (.int .i64 (P.y : Int)) (.int .i64 (P.k : Int)) (.int .i64 (P.dk : Int)) (.int .i64 (P.n : Int)) (.bool false) (.slice none 0 0) (.string P.s) (.slice none 0 0) (.slice none 0 0) (.int .i64 (P.er : Int))
      clear f0 f1 f2 f3 f4 f5 f6 f7 f8 f9 f10 d0 d1 d2 d3 d4 d5 d6 d7 d8 d9 d10
      generalize (((((((((((w2.setCell ⟨w.heap.size, 0, none⟩ (.int .i64 (P.x : Int))).setCell ⟨w.heap.size, 1, none⟩ (.int .i64 (P.y : Int))).setCell ⟨w.heap.size, 2, none⟩ (.int .i64 (P.k : Int))).setCell ⟨w.heap.size, 3, none⟩ (.int .i64 (P.dk : Int))).setCell ⟨w.heap.size, 4, none⟩ (.int .i64 (P.n : Int))).setCell ⟨w.heap.size, 5, none⟩ (.bool false)).setCell ⟨w.heap.size, 6, none⟩ (.slice none 0 0)).setCell ⟨w.heap.size, 7, none⟩ (.string P.s)).setCell ⟨w.heap.size, 8, none⟩ (.slice none 0 0)).setCell ⟨w.heap.size, 9, none⟩ (.slice none 0 0)).setCell ⟨w.heap.size, 10, none⟩ (.int .i64 (P.er : Int))) = W4 at *
      obtain ⟨d0, d1, d2, d3, d4, d5, d6, d7, d8, d9, d10⟩ := cells11 q1
      refine bodyPost_ret (by simp [results, Tryd.results27, go_sem, d0, d1, d2, d3, d4, d5, d6, d7, d8, d9, d10]; rfl) rfl ?_
      obtain ⟨-, uA, hlt, hsz⟩ := HG.out
      exact ⟨by simp [pcP, pcV], ⟨q2.up H2.out.up hsz, H2.out.ge, q2.old (Nat.ne_of_lt hlt) H2.out.cs⟩, Kr.join uA ((Kr.of_up (up_drew _)).tr HK2.out) q2 (Nat.le_refl _)⟩
    rw [if_neg b4]
    by_cases b5 : c = 34
    · rw [if_pos b5]
      subst b5
      have KT := KT (1) 6 (by omega)
      generalize tkP a (1) 6 = P at *
      have HS := hide KT
      clear h uA hA gA hlt hsz hD KT KH KO KL KP r0 hl hll hLl hat b1 b2 b3 b4
      unfold zer11 at HG c0 c1 HS
      unfold pcP pcV at HS
      go_enter Tryd.func27, Tryd.ntmps27
      go_wp2_with fail
      go_region
      obtain ⟨r3, r1, r2⟩ := HR.out
      clear HR
      generalize t.extract a t.size = r at *
      have s1 : (r.toList == []) = false := by simpa using r3
      have s2 : (0 : Int) < (r.size : Int) := by omega
      clear r3
      go_wp2_with (first
        | (go_at_call 40; refine HS.out.mono ?_; rintro e w2 ⟨rfl, h2, k2⟩; clear c0 c1; have g2 := k2.old (Nat.ne_of_gt HG.out.2.2.1) HG.out.1; obtain ⟨f0, f1, f2, f3, f4, f5, f6, f7, f8, f9, f10⟩ := frozen11 g2; obtain ⟨d0, d1, d2, d3, d4, d5, d6, d7, d8, d9, d10⟩ := cells11 g2; have H2 := hide h2; have HK2 := hide k2; have HG2 := hide g2; clear h2 k2 g2))
      obtain ⟨q1, q2⟩ := sto11 HG2.out (.int .i64 (P.x : Int)) (.int .i64 (P.y : Int)) (.int .i64 (P.k : Int)) (.int .i64 (P.dk : Int)) (.int .i64 (P.n : Int)) (.bool false) (.slice none 0 0) (.string P.s) (.slice none 0 0) (.slice none 0 0) (.int .i64 (P.er : Int))
      clear f0 f1 f2 f3 f4 f5 f6 f7 f8 f9 f10 d0 d1 d2 d3 d4 d5 d6 d7 d8 d9 d10
      generalize (((((((((((w2.setCell ⟨w.heap.size, 0, none⟩ (.int .i64 (P.x : Int))).setCell ⟨w.heap.size, 1, none⟩ (.int .i64 (P.y : Int))).setCell ⟨w.heap.size, 2, none⟩ (.int .i64 (P.k : Int))).setCell ⟨w.heap.size, 3, none⟩ (.int .i64 (P.dk : Int))).setCell ⟨w.heap.size, 4, none⟩ (.int .i64 (P.n : Int))).setCell ⟨w.heap.size, 5, none⟩ (.bool false)).setCell ⟨w.heap.size, 6, none⟩ (.slice none 0 0)).setCell ⟨w.heap.size, 7, none⟩ (.string P.s)).setCell ⟨w.heap.size, 8, none⟩ (.slice none 0 0)).setCell ⟨w.heap.size, 9, none⟩ (.slice none 0 0)).setCell ⟨w.heap.size, 10, none⟩ (.int .i64 (P.er : Int))) = W4 at *
      obtain ⟨d0, d1, d2, d3, d4, d5, d6, d7, d8, d9, d10⟩ := cells11 q1
      refine bodyPost_ret (by simp [results, Tryd.results27, go_sem, d0, d1, d2, d3, d4, d5, d6, d7, d8, d9, d10]; rfl) rfl ?_
      obtain ⟨-, uA, hlt, hsz⟩ := HG.out
      exact ⟨by simp [pcP, pcV], ⟨q2.up H2.out.up hsz, H2.out.ge, q2.old (Nat.ne_of_lt hlt) H2.out.cs⟩, Kr.join uA ((Kr.of_up (up_drew _)).tr HK2.out) q2 (Nat.le_refl _)⟩
    rw [if_neg b5]
    by_cases b6 : c = 39 ∨ c = 96
    · rw [if_pos b6]
      rcases b6 with rfl | rfl
      · have KT := KT (1) 5 (by omega)
        generalize tkP a (1) 5 = P at *
        have HS := hide KT
        clear h uA hA gA hlt hsz hD KT KH KO KL KP r0 hl hll hLl hat b1 b2 b3 b4 b5
        unfold zer11 at HG c0 c1 HS
        unfold pcP pcV at HS
        go_enter Tryd.func27, Tryd.ntmps27
        go_wp2_with fail
        go_region
        obtain ⟨r3, r1, r2⟩ := HR.out
        clear HR
        generalize t.extract a t.size = r at *
        have s1 : (r.toList == []) = false := by simpa using r3
        have s2 : (0 : Int) < (r.size : Int) := by omega
        clear r3
        go_wp2_with (first
          | (go_at_call 40; refine HS.out.mono ?_; rintro e w2 ⟨rfl, h2, k2⟩; clear c0 c1; have g2 := k2.old (Nat.ne_of_gt HG.out.2.2.1) HG.out.1; obtain ⟨f0, f1, f2, f3, f4, f5, f6, f7, f8, f9, f10⟩ := frozen11 g2; obtain ⟨d0, d1, d2, d3, d4, d5, d6, d7, d8, d9, d10⟩ := cells11 g2; have H2 := hide h2; have HK2 := hide k2; have HG2 := hide g2; clear h2 k2 g2))
        obtain ⟨q1, q2⟩ := sto11 HG2.out (.int .i64 (P.x : Int)) (.int .i64 (P.y : Int)) (.int .i64 (P.k : Int)) (.int .i64 (P.dk : Int)) (.int .i64 (P.n : Int)) (.bool false) (.slice none 0 0) (.string P.s) (.slice none 0 0) (.slice none 0 0) (.int .i64 (P.er : Int))
        clear f0 f1 f2 f3 f4 f5 f6 f7 f8 f9 f10 d0 d1 d2 d3 d4 d5 d6 d7 d8 d9 d10
        generalize (((((((((((w2.setCell ⟨w.heap.size, 0, none⟩ (.int .i64 (P.x : Int))).setCell ⟨w.heap.size, 1, none⟩ (.int .i64 (P.y : Int))).setCell ⟨w.heap.size, 2, none⟩ (.int .i64 (P.k : Int))).setCell ⟨w.heap.size, 3, none⟩ (.int .i64 (P.dk : Int))).setCell ⟨w.heap.size, 4, none⟩ (.int .i64 (P.n : Int))).setCell ⟨w.heap.size, 5, none⟩ (.bool false)).setCell ⟨w.heap.size, 6, none⟩ (.slice none 0 0)).setCell ⟨w.heap.size, 7, none⟩ (.string P.s)).setCell ⟨w.heap.size, 8, none⟩ (.slice none 0 0)).setCell ⟨w.heap.size, 9, none⟩ (.slice none 0 0)).setCell ⟨w.heap.size, 10, none⟩ (.int .i64 (P.er : Int))) = W4 at *
        obtain ⟨d0, d1, d2, d3, d4, d5, d6, d7, d8, d9, d10⟩ := cells11 q1
        refine bodyPost_ret (by simp [results, Tryd.results27, go_sem, d0, d1, d2, d3, d4, d5, d6, d7, d8, d9, d10]; rfl) rfl ?_
        obtain ⟨-, uA, hlt, hsz⟩ := HG.out
        exact ⟨by simp [pcP, pcV], ⟨q2.up H2.out.up hsz, H2.out.ge, q2.old (Nat.ne_of_lt hlt) H2.out.cs⟩, Kr.join uA ((Kr.of_up (up_drew _)).tr HK2.out) q2 (Nat.le_refl _)⟩
      · have KT := KT (1) 5 (by omega)
        generalize tkP a (1) 5 = P at *
        have HS := hide KT
        clear h uA hA gA hlt hsz hD KT KH KO KL KP r0 hl hll hLl hat b1 b2 b3 b4 b5
        unfold zer11 at HG c0 c1 HS
        unfold pcP pcV at HS
        go_enter Tryd.func27, Tryd.ntmps27
        go_wp2_with fail
        go_region
        obtain ⟨r3, r1, r2⟩ := HR.out
        clear HR
        generalize t.extract a t.size = r at *
        have s1 : (r.toList == []) = false := by simpa using r3
        have s2 : (0 : Int) < (r.size : Int) := by omega
        clear r3
        go_wp2_with (first
          | (go_at_call 40; refine HS.out.mono ?_; rintro e w2 ⟨rfl, h2, k2⟩; clear c0 c1; have g2 := k2.old (Nat.ne_of_gt HG.out.2.2.1) HG.out.1; obtain ⟨f0, f1, f2, f3, f4, f5, f6, f7, f8, f9, f10⟩ := frozen11 g2; obtain ⟨d0, d1, d2, d3, d4, d5, d6, d7, d8, d9, d10⟩ := cells11 g2; have H2 := hide h2; have HK2 := hide k2; have HG2 := hide g2; clear h2 k2 g2))
        obtain ⟨q1, q2⟩ := sto11 HG2.out (.int .i64 (P.x : Int)) (.int .i64 (P.y : Int)) (.int .i64 (P.k : Int)) (.int .i64 (P.dk : Int)) (.int .i64 (P.n : Int)) (.bool false) (.slice none 0 0) (.string P.s) (.slice none 0 0) (.slice none 0 0) (.int .i64 (P.er : Int))
        clear f0 f1 f2 f3 f4 f5 f6 f7 f8 f9 f10 d0 d1 d2 d3 d4 d5 d6 d7 d8 d9 d10
        generalize (((((((((((w2.setCell ⟨w.heap.size, 0, none⟩ (.int .i64 (P.x : Int))).setCell ⟨w.heap.size, 1, none⟩ (.int .i64 (P.y : Int))).setCell ⟨w.heap.size, 2, none⟩ (.int .i64 (P.k : Int))).setCell ⟨w.heap.size, 3, none⟩ (.int .i64 (P.dk : Int))).setCell ⟨w.heap.size, 4, none⟩ (.int .i64 (P.n : Int))).setCell ⟨w.heap.size, 5, none⟩ (.bool false)).setCell ⟨w.heap.size, 6, none⟩ (.slice none 0 0)).setCell ⟨w.heap.size, 7, none⟩ (.string P.s)).setCell ⟨w.heap.size, 8, none⟩ (.slice none 0 0)).setCell ⟨w.heap.size, 9, none⟩ (.slice none 0 0)).setCell ⟨w.heap.size, 10, none⟩ (.int .i64 (P.er : Int))) = W4 at *
        obtain ⟨d0, d1, d2, d3, d4, d5, d6, d7, d8, d9, d10⟩ := cells11 q1
        refine bodyPost_ret (by simp [results, Tryd.results27, go_sem, d0, d1, d2, d3, d4, d5, d6, d7, d8, d9, d10]; rfl) rfl ?_
        obtain ⟨-, uA, hlt, hsz⟩ := HG.out
        exact ⟨by simp [pcP, pcV], ⟨q2.up H2.out.up hsz, H2.out.ge, q2.old (Nat.ne_of_lt hlt) H2.out.cs⟩, Kr.join uA ((Kr.of_up (up_drew _)).tr HK2.out) q2 (Nat.le_refl _)⟩
    rw [if_neg b6]
    by_cases b7 : c = 44
    · rw [if_pos b7]
      subst b7
      by_cases p1 : Lib.hasPrefix (44 :: l) [44, 64] = true
      · rw [if_pos p1]
        rw [p1] at KP
        have HP := hide KP
        have KT := KT (2) 5 (by omega)
        generalize tkP a (2) 5 = P at *
        have HS := hide KT
        clear h uA hA gA hlt hsz hD KT KH KO KL KP r0 hl hll hLl hat b1 b2 b3 b4 b5 b6 p1
        unfold zer11 at HG c0 c1 HS
        unfold pcP pcV at HS
        go_enter Tryd.func27, Tryd.ntmps27
        go_wp2_with fail
        go_region
        obtain ⟨r3, r1, r2⟩ := HR.out
        clear HR
        generalize t.extract a t.size = r at *
        have s1 : (r.toList == []) = false := by simpa using r3
        have s2 : (0 : Int) < (r.size : Int) := by omega
        clear r3
        go_wp2_with (first
          | (go_at_call 42; refine (HP.out _).mono ?_; rintro e w1 ⟨rfl, rfl⟩)
          | (go_at_call 40; refine HS.out.mono ?_; rintro e w2 ⟨rfl, h2, k2⟩; clear c0 c1; have g2 := k2.old (Nat.ne_of_gt HG.out.2.2.1) HG.out.1; obtain ⟨f0, f1, f2, f3, f4, f5, f6, f7, f8, f9, f10⟩ := frozen11 g2; obtain ⟨d0, d1, d2, d3, d4, d5, d6, d7, d8, d9, d10⟩ := cells11 g2; have H2 := hide h2; have HK2 := hide k2; have HG2 := hide g2; clear h2 k2 g2))
        obtain ⟨q1, q2⟩ := sto11 HG2.out (.int .i64 (P.x : Int)) (.int .i64 (P.y : Int)) (.int .i64 (P.k : Int)) (.int .i64 (P.dk : Int)) (.int .i64 (P.n : Int)) (.bool false) (.slice none 0 0) (.string P.s) (.slice none 0 0) (.slice none 0 0) (.int .i64 (P.er : Int))
        clear f0 f1 f2 f3 f4 f5 f6 f7 f8 f9 f10 d0 d1 d2 d3 d4 d5 d6 d7 d8 d9 d10
        generalize (((((((((((w2.setCell ⟨w.heap.size, 0, none⟩ (.int .i64 (P.x : Int))).setCell ⟨w.heap.size, 1, none⟩ (.int .i64 (P.y : Int))).setCell ⟨w.heap.size, 2, none⟩ (.int .i64 (P.k : Int))).setCell ⟨w.heap.size, 3, none⟩ (.int .i64 (P.dk : Int))).setCell ⟨w.heap.size, 4, none⟩ (.int .i64 (P.n : Int))).setCell ⟨w.heap.size, 5, none⟩ (.bool false)).setCell ⟨w.heap.size, 6, none⟩ (.slice none 0 0)).setCell ⟨w.heap.size, 7, none⟩ (.string P.s)).setCell ⟨w.heap.size, 8, none⟩ (.slice none 0 0)).setCell ⟨w.heap.size, 9, none⟩ (.slice none 0 0)).setCell ⟨w.heap.size, 10, none⟩ (.int .i64 (P.er : Int))) = W4 at *
        obtain ⟨d0, d1, d2, d3, d4, d5, d6, d7, d8, d9, d10⟩ := cells11 q1
        refine bodyPost_ret (by simp [results, Tryd.results27, go_sem, d0, d1, d2, d3, d4, d5, d6, d7, d8, d9, d10]; rfl) rfl ?_
        obtain ⟨-, uA, hlt, hsz⟩ := HG.out
        exact ⟨by simp [pcP, pcV], ⟨q2.up H2.out.up hsz, H2.out.ge, q2.old (Nat.ne_of_lt hlt) H2.out.cs⟩, Kr.join uA ((Kr.of_up (up_drew _)).tr HK2.out) q2 (Nat.le_refl _)⟩
      · rw [if_neg p1]
        rw [show Lib.hasPrefix (44 :: l) [44, 64] = false from by simpa using p1] at KP
        have HP := hide KP
        have KT := KT (1) 5 (by omega)
        generalize tkP a (1) 5 = P at *
        have HS := hide KT
        clear h uA hA gA hlt hsz hD KT KH KO KL KP r0 hl hll hLl hat b1 b2 b3 b4 b5 b6 p1
        unfold zer11 at HG c0 c1 HS
        unfold pcP pcV at HS
        go_enter Tryd.func27, Tryd.ntmps27
        go_wp2_with fail
        go_region
        obtain ⟨r3, r1, r2⟩ := HR.out
        clear HR
        generalize t.extract a t.size = r at *
        have s1 : (r.toList == []) = false := by simpa using r3
        have s2 : (0 : Int) < (r.size : Int) := by omega
        clear r3
        go_wp2_with (first
          | (go_at_call 42; refine (HP.out _).mono ?_; rintro e w1 ⟨rfl, rfl⟩)
          | (go_at_call 40; refine HS.out.mono ?_; rintro e w2 ⟨rfl, h2, k2⟩; clear c0 c1; have g2 := k2.old (Nat.ne_of_gt HG.out.2.2.1) HG.out.1; obtain ⟨f0, f1, f2, f3, f4, f5, f6, f7, f8, f9, f10⟩ := frozen11 g2; obtain ⟨d0, d1, d2, d3, d4, d5, d6, d7, d8, d9, d10⟩ := cells11 g2; have H2 := hide h2; have HK2 := hide k2; have HG2 := hide g2; clear h2 k2 g2))
        obtain ⟨q1, q2⟩ := sto11 HG2.out (.int .i64 (P.x : Int)) (.int .i64 (P.y : Int)) (.int .i64 (P.k : Int)) (.int .i64 (P.dk : Int)) (.int .i64 (P.n : Int)) (.bool false) (.slice none 0 0) (.string P.s) (.slice none 0 0) (.slice none 0 0) (.int .i64 (P.er : Int))
        clear f0 f1 f2 f3 f4 f5 f6 f7 f8 f9 f10 d0 d1 d2 d3 d4 d5 d6 d7 d8 d9 d10
        generalize (((((((((((w2.setCell ⟨w.heap.size, 0, none⟩ (.int .i64 (P.x : Int))).setCell ⟨w.heap.size, 1, none⟩ (.int .i64 (P.y : Int))).setCell ⟨w.heap.size, 2, none⟩ (.int .i64 (P.k : Int))).setCell ⟨w.heap.size, 3, none⟩ (.int .i64 (P.dk : Int))).setCell ⟨w.heap.size, 4, none⟩ (.int .i64 (P.n : Int))).setCell ⟨w.heap.size, 5, none⟩ (.bool false)).setCell ⟨w.heap.size, 6, none⟩ (.slice none 0 0)).setCell ⟨w.heap.size, 7, none⟩ (.string P.s)).setCell ⟨w.heap.size, 8, none⟩ (.slice none 0 0)).setCell ⟨w.heap.size, 9, none⟩ (.slice none 0 0)).setCell ⟨w.heap.size, 10, none⟩ (.int .i64 (P.er : Int))) = W4 at *
        obtain ⟨d0, d1, d2, d3, d4, d5, d6, d7, d8, d9, d10⟩ := cells11 q1
        refine bodyPost_ret (by simp [results, Tryd.results27, go_sem, d0, d1, d2, d3, d4, d5, d6, d7, d8, d9, d10]; rfl) rfl ?_
        obtain ⟨-, uA, hlt, hsz⟩ := HG.out
        exact ⟨by simp [pcP, pcV], ⟨q2.up H2.out.up hsz, H2.out.ge, q2.old (Nat.ne_of_lt hlt) H2.out.cs⟩, Kr.join uA ((Kr.of_up (up_drew _)).tr HK2.out) q2 (Nat.le_refl _)⟩
    rw [if_neg b7]
    by_cases b8 : c = 35
    · rw [if_pos b8]
      subst b8
      generalize shP t.size a (35 :: l) = P at *
      have HS := hide KH
      clear h uA hA gA hlt hsz hD KT KH KO KL KP r0 hl hll hLl hat b1 b2 b3 b4 b5 b6 b7
      unfold zer11 at HG c0 c1 HS
      unfold pcP pcV at HS
      go_enter Tryd.func27, Tryd.ntmps27
      go_wp2_with fail
      go_region
      obtain ⟨r3, r1, r2⟩ := HR.out
      clear HR
      generalize t.extract a t.size = r at *
      have s1 : (r.toList == []) = false := by simpa using r3
      have s2 : (0 : Int) < (r.size : Int) := by omega
      clear r3
      go_wp2_with (first
        | (go_at_call 43; refine HS.out.mono ?_; rintro e w2 ⟨rfl, h2, k2⟩; clear c0 c1; have g2 := k2.old (Nat.ne_of_gt HG.out.2.2.1) HG.out.1; obtain ⟨f0, f1, f2, f3, f4, f5, f6, f7, f8, f9, f10⟩ := frozen11 g2; obtain ⟨d0, d1, d2, d3, d4, d5, d6, d7, d8, d9, d10⟩ := cells11 g2; have H2 := hide h2; have HK2 := hide k2; have HG2 := hide g2; clear h2 k2 g2))
      obtain ⟨q1, q2⟩ := sto11 HG2.out (.int .i64 (P.x : Int)) (.int .i64 (P.y : Int)) (.int .i64 (P.k : Int)) (.int .i64 (P.dk : Int)) (.int .i64 (P.n : Int)) (.bool false) (.slice none 0 0) (.string P.s) (.slice none 0 0) (.slice none 0 0) (.int .i64 (P.er : Int))
      clear f0 f1 f2 f3 f4 f5 f6 f7 f8 f9 f10 d0 d1 d2 d3 d4 d5 d6 d7 d8 d9 d10
      generalize (((((((((((w2.setCell ⟨w.heap.size, 0, none⟩ (.int .i64 (P.x : Int))).setCell ⟨w.heap.size, 1, none⟩ (.int .i64 (P.y : Int))).setCell ⟨w.heap.size, 2, none⟩ (.int .i64 (P.k : Int))).setCell ⟨w.heap.size, 3, none⟩ (.int .i64 (P.dk : Int))).setCell ⟨w.heap.size, 4, none⟩ (.int .i64 (P.n : Int))).setCell ⟨w.heap.size, 5, none⟩ (.bool false)).setCell ⟨w.heap.size, 6, none⟩ (.slice none 0 0)).setCell ⟨w.heap.size, 7, none⟩ (.string P.s)).setCell ⟨w.heap.size, 8, none⟩ (.slice none 0 0)).setCell ⟨w.heap.size, 9, none⟩ (.slice none 0 0)).setCell ⟨w.heap.size, 10, none⟩ (.int .i64 (P.er : Int))) = W4 at *
      obtain ⟨d0, d1, d2, d3, d4, d5, d6, d7, d8, d9, d10⟩ := cells11 q1
      refine bodyPost_ret (by simp [results, Tryd.results27, go_sem, d0, d1, d2, d3, d4, d5, d6, d7, d8, d9, d10]; rfl) rfl ?_
      obtain ⟨-, uA, hlt, hsz⟩ := HG.out
      exact ⟨by simp [pcP, pcV], ⟨q2.up H2.out.up hsz, H2.out.ge, q2.old (Nat.ne_of_lt hlt) H2.out.cs⟩, Kr.join uA ((Kr.of_up (up_drew _)).tr HK2.out) q2 (Nat.le_refl _)⟩
    rw [if_neg b8]
    generalize tokP a (c :: l) = P at *
    have HS := hide KO
    have n32 : ¬ ((c.toNat : Int) = 32) := not_int (k := 32) (fun e => (fun e => b1 (.inl e)) (UInt8.toNat_inj.1 e))
    have n9 : ¬ ((c.toNat : Int) = 9) := not_int (k := 9) (fun e => (fun e => b1 (.inr (.inl e))) (UInt8.toNat_inj.1 e))
    have n10 : ¬ ((c.toNat : Int) = 10) := not_int (k := 10) (fun e => (fun e => b1 (.inr (.inr (.inl e)))) (UInt8.toNat_inj.1 e))
    have n13 : ¬ ((c.toNat : Int) = 13) := not_int (k := 13) (fun e => (fun e => b1 (.inr (.inr (.inr e)))) (UInt8.toNat_inj.1 e))
    have n59 : ¬ ((c.toNat : Int) = 59) := not_int (k := 59) (fun e => (b2) (UInt8.toNat_inj.1 e))
    have n40 : ¬ ((c.toNat : Int) = 40) := not_int (k := 40) (fun e => (b3) (UInt8.toNat_inj.1 e))
    have n41 : ¬ ((c.toNat : Int) = 41) := not_int (k := 41) (fun e => (b4) (UInt8.toNat_inj.1 e))
    have n34 : ¬ ((c.toNat : Int) = 34) := not_int (k := 34) (fun e => (b5) (UInt8.toNat_inj.1 e))
    have n39 : ¬ ((c.toNat : Int) = 39) := not_int (k := 39) (fun e => (fun e => b6 (.inl e)) (UInt8.toNat_inj.1 e))
    have n96 : ¬ ((c.toNat : Int) = 96) := not_int (k := 96) (fun e => (fun e => b6 (.inr e)) (UInt8.toNat_inj.1 e))
    have n44 : ¬ ((c.toNat : Int) = 44) := not_int (k := 44) (fun e => (b7) (UInt8.toNat_inj.1 e))
    have n35 : ¬ ((c.toNat : Int) = 35) := not_int (k := 35) (fun e => (b8) (UInt8.toNat_inj.1 e))
    clear h uA hA gA hlt hsz hD KT KH KO KL KP r0 hl hll hLl hat b1 b2 b3 b4 b5 b6 b7 b8
    unfold zer11 at HG c0 c1 HS
    unfold pcP pcV at HS
    go_enter Tryd.func27, Tryd.ntmps27
    go_wp2_with fail
    go_region
    obtain ⟨r3, r1, r2⟩ := HR.out
    clear HR
    generalize t.extract a t.size = r at *
    have s1 : (r.toList == []) = false := by simpa using r3
    have s2 : (0 : Int) < (r.size : Int) := by omega
    clear r3
    go_wp2_with (first
      | (go_at_call 44; refine HS.out.mono ?_; rintro e w2 ⟨rfl, h2, k2⟩; clear c0 c1; have g2 := k2.old (Nat.ne_of_gt HG.out.2.2.1) HG.out.1; obtain ⟨f0, f1, f2, f3, f4, f5, f6, f7, f8, f9, f10⟩ := frozen11 g2; obtain ⟨d0, d1, d2, d3, d4, d5, d6, d7, d8, d9, d10⟩ := cells11 g2; have H2 := hide h2; have HK2 := hide k2; have HG2 := hide g2; clear h2 k2 g2))
    obtain ⟨q1, q2⟩ := sto11 HG2.out (.int .i64 (P.x : Int)) (.int .i64 (P.y : Int)) (.int .i64 (P.k : Int)) (.int .i64 (P.dk : Int)) (.int .i64 (P.n : Int)) (.bool false) (.slice none 0 0) (.string P.s) (.slice none 0 0) (.slice none 0 0) (.int .i64 (P.er : Int))
    clear f0 f1 f2 f3 f4 f5 f6 f7 f8 f9 f10 d0 d1 d2 d3 d4 d5 d6 d7 d8 d9 d10
    generalize (((((((((((w2.setCell ⟨w.heap.size, 0, none⟩ (.int .i64 (P.x : Int))).setCell ⟨w.heap.size, 1, none⟩ (.int .i64 (P.y : Int))).setCell ⟨w.heap.size, 2, none⟩ (.int .i64 (P.k : Int))).setCell ⟨w.heap.size, 3, none⟩ (.int .i64 (P.dk : Int))).setCell ⟨w.heap.size, 4, none⟩ (.int .i64 (P.n : Int))).setCell ⟨w.heap.size, 5, none⟩ (.bool false)).setCell ⟨w.heap.size, 6, none⟩ (.slice none 0 0)).setCell ⟨w.heap.size, 7, none⟩ (.string P.s)).setCell ⟨w.heap.size, 8, none⟩ (.slice none 0 0)).setCell ⟨w.heap.size, 9, none⟩ (.slice none 0 0)).setCell ⟨w.heap.size, 10, none⟩ (.int .i64 (P.er : Int))) = W4 at *
    obtain ⟨d0, d1, d2, d3, d4, d5, d6, d7, d8, d9, d10⟩ := cells11 q1
    refine bodyPost_ret (by simp [results, Tryd.results27, go_sem, d0, d1, d2, d3, d4, d5, d6, d7, d8, d9, d10]; rfl) rfl ?_
    obtain ⟨-, uA, hlt, hsz⟩ := HG.out
    exact ⟨by simp [pcP, pcV], ⟨q2.up H2.out.up hsz, H2.out.ge, q2.old (Nat.ne_of_lt hlt) H2.out.cs⟩, Kr.join uA ((Kr.of_up (up_drew _)).tr HK2.out) q2 (Nat.le_refl _)⟩

end Go.Proofs.YteipogfolnlblaaDoor
