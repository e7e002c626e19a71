/-
  What is proved here: package read's escape.
-/
import Derived.Test.YtfplplobhmacoaaGreatDoorRB
import Derived.Test.YtfplplobhmacoaaGreatDoorRC
namespace Go.Proofs.YtfplplobhmacoaaGreatDoor
open Go Go.RowKit

set_option maxHeartbeats 2000000 in
set_option maxRecDepth 100000 in
theorem escape_two (w0 : World) (rb : Nat) (t : ByteArray) (a d : Nat) (x : UInt8) (y : Int) (w : World) (h : RS w0 rb t a d w) (ht : t.size ≤ 1000000000) (ha : a + 2 ≤ t.size) (e1 : t.data.toList[a + 1]? = some x) (hx : (x = 34 ∧ y = 34) ∨ (x = 92 ∧ y = 92) ∨ (x = 110 ∧ y = 10) ∨ (x = 116 ∧ y = 9)) :
    Calls Tryz.prog 34 #[.pointer (some ⟨rb, 0, none⟩)] w fun e w' => e = .returned (pcV a ((a + 2 : Nat) : Int) 10 (.int .i64 3) (.int .i64 y) (.bool false) (.slice none 0 0) (.string ⟨#[]⟩) (.slice none 0 0) (.slice none 0 0) 0) ∧ RS w0 rb t (a + 2) d w' ∧ Kr rb w w' := by
  have uA := up_alloc w zer11
  have hA : RS w0 rb t a d (w.alloc zer11) := ⟨h.up.tr uA, h.ge, uA.old h.cs⟩
  have gA : (w.alloc zer11).heap[w.heap.size]? = some zer11 := heap_alloc_new w zer11
  have hlt := h.lt
  have hsz : w0.heap.size ≤ w.heap.size := h.up.size
  have c0 : (w.alloc zer11).cell? ⟨rb, 0, none⟩ = some (.string t) := cell_of_row _ rb 0 _ _ _ hA.cs
  have c1 : (w.alloc zer11).cell? ⟨rb, 1, none⟩ = some (.int .i64 a) := cell_of_row _ rb 1 _ _ _ hA.cs
  have hD : RS w0 rb t a d (w.alloc zer11).drew := ⟨hA.up.tr (up_drew _), hA.ge, hA.cs⟩
  have KS := fun (c : Int) => stands_any w0 rb t a d 2 c _ hD (by omega)
  have HS := hide KS
  have HG := hide (And.intro gA (And.intro uA (And.intro hlt hsz)))
  clear h uA hA gA hlt hsz hD KS
  unfold zer11 at HG c0 c1 HS
  unfold pcV at HS
  have aI : (a : Int) ≤ (t.size : Int) := by omega
  have r0 : (t.extract a t.size).size = t.size - a := by simp
  have r1 : 1 < (t.extract a t.size).size := by omega
  have r2 : (t.extract a t.size)[1] = x := by
    have e2 : t.data.toList[a + 1]? = some x := e1
    rw [ByteArray.getElem_extract]
    have hh : a + 1 < t.data.toList.length := by rw [bytes_len]; omega
    rw [List.getElem?_eq_getElem hh] at e2
    simpa [ByteArray.getElem_eq_getElem_data] using e2
  have HR := hide (show (t.extract a t.size).size = t.size - a ∧ ∃ hh : 1 < (t.extract a t.size).size, (t.extract a t.size)[1]'hh = x from ⟨r0, r1, r2⟩)
  clear r2 r1 r0 e1
  go_enter Tryz.func34, Tryz.ntmps34
  go_wp2_with fail
  go_region
  obtain ⟨r0, r1, r2⟩ := HR.out
  clear HR
  generalize t.extract a t.size = r at *
  have s1 : ¬ ((r.size : Int) = 1) := by omega
  have s2 : (1 : Int) < (r.size : Int) := by omega
  rcases hx with ⟨rfl, rfl⟩ | ⟨rfl, rfl⟩ | ⟨rfl, rfl⟩ | ⟨rfl, rfl⟩
  · go_wp2_with (go_at_call 51; refine (HS.out 34).mono ?_; rintro e w2 ⟨rfl, h2, k2⟩; have g2 := k2.old (Nat.ne_of_gt HG.out.2.2.1) HG.out.1; obtain ⟨f0, f1, f2, f3, f4, f5, f6, f7, f8, f9, f10⟩ := frozen11 g2; obtain ⟨d0, d1, d2, d3, d4, d5, d6, d7, d8, d9, d10⟩ := cells11 g2; have H2 := hide h2; have HK2 := hide k2; have HG2 := hide g2; clear h2 k2 g2)
    obtain ⟨q1, q2⟩ := sto11 HG2.out (.int .i64 a) (.int .i64 ((a : Int) + 2)) (.int .i64 10) (.int .i64 3) (.int .i64 34) (.bool false) (.slice none 0 0) (.string ⟨#[]⟩) (.slice none 0 0) (.slice none 0 0) (.int .i64 0)
    clear f0 f1 f2 f3 f4 f5 f6 f7 f8 f9 f10 d0 d1 d2 d3 d4 d5 d6 d7 d8 d9 d10
    generalize (((((((((((w2.setCell ⟨w.heap.size, 0, none⟩ (.int .i64 a)).setCell ⟨w.heap.size, 1, none⟩ (.int .i64 ((a : Int) + 2))).setCell ⟨w.heap.size, 2, none⟩ (.int .i64 10)).setCell ⟨w.heap.size, 3, none⟩ (.int .i64 3)).setCell ⟨w.heap.size, 4, none⟩ (.int .i64 34)).setCell ⟨w.heap.size, 5, none⟩ (.bool false)).setCell ⟨w.heap.size, 6, none⟩ (.slice none 0 0)).setCell ⟨w.heap.size, 7, none⟩ (.string ⟨#[]⟩)).setCell ⟨w.heap.size, 8, none⟩ (.slice none 0 0)).setCell ⟨w.heap.size, 9, none⟩ (.slice none 0 0)).setCell ⟨w.heap.size, 10, none⟩ (.int .i64 0)) = W4 at *
    obtain ⟨d0, d1, d2, d3, d4, d5, d6, d7, d8, d9, d10⟩ := cells11 q1
    refine bodyPost_ret (by simp [results, Tryz.results34, go_sem, d0, d1, d2, d3, d4, d5, d6, d7, d8, d9, d10]; rfl) rfl ?_
    obtain ⟨-, uA, hlt, hsz⟩ := HG.out
    exact ⟨by simp [pcV], ⟨q2.up H2.out.up hsz, H2.out.ge, q2.old (Nat.ne_of_lt hlt) H2.out.cs⟩, Kr.join uA ((Kr.of_up (up_drew _)).tr HK2.out) q2 (Nat.le_refl _)⟩
  · go_wp2_with (go_at_call 51; refine (HS.out 92).mono ?_; rintro e w2 ⟨rfl, h2, k2⟩; have g2 := k2.old (Nat.ne_of_gt HG.out.2.2.1) HG.out.1; obtain ⟨f0, f1, f2, f3, f4, f5, f6, f7, f8, f9, f10⟩ := frozen11 g2; obtain ⟨d0, d1, d2, d3, d4, d5, d6, d7, d8, d9, d10⟩ := cells11 g2; have H2 := hide h2; have HK2 := hide k2; have HG2 := hide g2; clear h2 k2 g2)
    obtain ⟨q1, q2⟩ := sto11 HG2.out (.int .i64 a) (.int .i64 ((a : Int) + 2)) (.int .i64 10) (.int .i64 3) (.int .i64 92) (.bool false) (.slice none 0 0) (.string ⟨#[]⟩) (.slice none 0 0) (.slice none 0 0) (.int .i64 0)
    clear f0 f1 f2 f3 f4 f5 f6 f7 f8 f9 f10 d0 d1 d2 d3 d4 d5 d6 d7 d8 d9 d10
    generalize (((((((((((w2.setCell ⟨w.heap.size, 0, none⟩ (.int .i64 a)).setCell ⟨w.heap.size, 1, none⟩ (.int .i64 ((a : Int) + 2))).setCell ⟨w.heap.size, 2, none⟩ (.int .i64 10)).setCell ⟨w.heap.size, 3, none⟩ (.int .i64 3)).setCell ⟨w.heap.size, 4, none⟩ (.int .i64 92)).setCell ⟨w.heap.size, 5, none⟩ (.bool false)).setCell ⟨w.heap.size, 6, none⟩ (.slice none 0 0)).setCell ⟨w.heap.size, 7, none⟩ (.string ⟨#[]⟩)).setCell ⟨w.heap.size, 8, none⟩ (.slice none 0 0)).setCell ⟨w.heap.size, 9, none⟩ (.slice none 0 0)).setCell ⟨w.heap.size, 10, none⟩ (.int .i64 0)) = W4 at *
    obtain ⟨d0, d1, d2, d3, d4, d5, d6, d7, d8, d9, d10⟩ := cells11 q1
    refine bodyPost_ret (by simp [results, Tryz.results34, go_sem, d0, d1, d2, d3, d4, d5, d6, d7, d8, d9, d10]; rfl) rfl ?_
    obtain ⟨-, uA, hlt, hsz⟩ := HG.out
    exact ⟨by simp [pcV], ⟨q2.up H2.out.up hsz, H2.out.ge, q2.old (Nat.ne_of_lt hlt) H2.out.cs⟩, Kr.join uA ((Kr.of_up (up_drew _)).tr HK2.out) q2 (Nat.le_refl _)⟩
  · go_wp2_with (go_at_call 51; refine (HS.out 10).mono ?_; rintro e w2 ⟨rfl, h2, k2⟩; have g2 := k2.old (Nat.ne_of_gt HG.out.2.2.1) HG.out.1; obtain ⟨f0, f1, f2, f3, f4, f5, f6, f7, f8, f9, f10⟩ := frozen11 g2; obtain ⟨d0, d1, d2, d3, d4, d5, d6, d7, d8, d9, d10⟩ := cells11 g2; have H2 := hide h2; have HK2 := hide k2; have HG2 := hide g2; clear h2 k2 g2)
    obtain ⟨q1, q2⟩ := sto11 HG2.out (.int .i64 a) (.int .i64 ((a : Int) + 2)) (.int .i64 10) (.int .i64 3) (.int .i64 10) (.bool false) (.slice none 0 0) (.string ⟨#[]⟩) (.slice none 0 0) (.slice none 0 0) (.int .i64 0)
    clear f0 f1 f2 f3 f4 f5 f6 f7 f8 f9 f10 d0 d1 d2 d3 d4 d5 d6 d7 d8 d9 d10
    generalize (((((((((((w2.setCell ⟨w.heap.size, 0, none⟩ (.int .i64 a)).setCell ⟨w.heap.size, 1, none⟩ (.int .i64 ((a : Int) + 2))).setCell ⟨w.heap.size, 2, none⟩ (.int .i64 10)).setCell ⟨w.heap.size, 3, none⟩ (.int .i64 3)).setCell ⟨w.heap.size, 4, none⟩ (.int .i64 10)).setCell ⟨w.heap.size, 5, none⟩ (.bool false)).setCell ⟨w.heap.size, 6, none⟩ (.slice none 0 0)).setCell ⟨w.heap.size, 7, none⟩ (.string ⟨#[]⟩)).setCell ⟨w.heap.size, 8, none⟩ (.slice none 0 0)).setCell ⟨w.heap.size, 9, none⟩ (.slice none 0 0)).setCell ⟨w.heap.size, 10, none⟩ (.int .i64 0)) = W4 at *
    obtain ⟨d0, d1, d2, d3, d4, d5, d6, d7, d8, d9, d10⟩ := cells11 q1
    refine bodyPost_ret (by simp [results, Tryz.results34, go_sem, d0, d1, d2, d3, d4, d5, d6, d7, d8, d9, d10]; rfl) rfl ?_
    obtain ⟨-, uA, hlt, hsz⟩ := HG.out
    exact ⟨by simp [pcV], ⟨q2.up H2.out.up hsz, H2.out.ge, q2.old (Nat.ne_of_lt hlt) H2.out.cs⟩, Kr.join uA ((Kr.of_up (up_drew _)).tr HK2.out) q2 (Nat.le_refl _)⟩
  · go_wp2_with (go_at_call 51; refine (HS.out 9).mono ?_; rintro e w2 ⟨rfl, h2, k2⟩; have g2 := k2.old (Nat.ne_of_gt HG.out.2.2.1) HG.out.1; obtain ⟨f0, f1, f2, f3, f4, f5, f6, f7, f8, f9, f10⟩ := frozen11 g2; obtain ⟨d0, d1, d2, d3, d4, d5, d6, d7, d8, d9, d10⟩ := cells11 g2; have H2 := hide h2; have HK2 := hide k2; have HG2 := hide g2; clear h2 k2 g2)
    obtain ⟨q1, q2⟩ := sto11 HG2.out (.int .i64 a) (.int .i64 ((a : Int) + 2)) (.int .i64 10) (.int .i64 3) (.int .i64 9) (.bool false) (.slice none 0 0) (.string ⟨#[]⟩) (.slice none 0 0) (.slice none 0 0) (.int .i64 0)
    clear f0 f1 f2 f3 f4 f5 f6 f7 f8 f9 f10 d0 d1 d2 d3 d4 d5 d6 d7 d8 d9 d10
    generalize (((((((((((w2.setCell ⟨w.heap.size, 0, none⟩ (.int .i64 a)).setCell ⟨w.heap.size, 1, none⟩ (.int .i64 ((a : Int) + 2))).setCell ⟨w.heap.size, 2, none⟩ (.int .i64 10)).setCell ⟨w.heap.size, 3, none⟩ (.int .i64 3)).setCell ⟨w.heap.size, 4, none⟩ (.int .i64 9)).setCell ⟨w.heap.size, 5, none⟩ (.bool false)).setCell ⟨w.heap.size, 6, none⟩ (.slice none 0 0)).setCell ⟨w.heap.size, 7, none⟩ (.string ⟨#[]⟩)).setCell ⟨w.heap.size, 8, none⟩ (.slice none 0 0)).setCell ⟨w.heap.size, 9, none⟩ (.slice none 0 0)).setCell ⟨w.heap.size, 10, none⟩ (.int .i64 0)) = W4 at *
    obtain ⟨d0, d1, d2, d3, d4, d5, d6, d7, d8, d9, d10⟩ := cells11 q1
    refine bodyPost_ret (by simp [results, Tryz.results34, go_sem, d0, d1, d2, d3, d4, d5, d6, d7, d8, d9, d10]; rfl) rfl ?_
    obtain ⟨-, uA, hlt, hsz⟩ := HG.out
    exact ⟨by simp [pcV], ⟨q2.up H2.out.up hsz, H2.out.ge, q2.old (Nat.ne_of_lt hlt) H2.out.cs⟩, Kr.join uA ((Kr.of_up (up_drew _)).tr HK2.out) q2 (Nat.le_refl _)⟩

end Go.Proofs.YtfplplobhmacoaaGreatDoor
