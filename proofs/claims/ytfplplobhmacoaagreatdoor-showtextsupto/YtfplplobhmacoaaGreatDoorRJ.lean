/-
  What is proved here: package read's piece, at the beginning of a text.
-/
import Derived.Test.YtfplplobhmacoaaGreatDoorRI
namespace Go.Proofs.YtfplplobhmacoaaGreatDoor
open Go Go.RowKit

set_option maxHeartbeats 4000000 in
set_option maxRecDepth 100000 in
theorem piece_quote (w0 : World) (rb : Nat) (t : ByteArray) (a d : Nat) (l : List UInt8) (w : World) (h : RS w0 rb t a d w) (ht : t.size ≤ 100000000) (hr : t.data.toList.drop a = 34 :: l) :
    Calls Tryz.prog 16 #[.pointer (some ⟨rb, 0, none⟩)] w fun e w' => e = .returned (pc0 a ((a + 1 : Nat) : Int) 6) ∧ RS w0 rb t (a + 1) d w' ∧ Kr rb w w' := by
  have uA := up_alloc w zer11
  have hA : RS w0 rb t a d (w.alloc zer11) := ⟨h.up.tr uA, h.ge, uA.old h.cs⟩
  have gA : (w.alloc zer11).heap[w.heap.size]? = some zer11 := heap_alloc_new w zer11
  have hlt := h.lt
  have hsz : w0.heap.size ≤ w.heap.size := h.up.size
  have c0 : (w.alloc zer11).cell? ⟨rb, 0, none⟩ = some (.string t) := cell_of_row _ rb 0 _ _ _ hA.cs
  have c1 : (w.alloc zer11).cell? ⟨rb, 1, none⟩ = some (.int .i64 a) := cell_of_row _ rb 1 _ _ _ hA.cs
  have hD : RS w0 rb t a d (w.alloc zer11).drew := ⟨hA.up.tr (up_drew _), hA.ge, hA.cs⟩
  have zl : 1 ≤ t.size - a := by rw [← bytes_len, ← List.length_drop, hr]; simp
  have er := ext_list t a (by omega)
  rw [hr] at er
  have r0 : (t.extract a t.size).size = t.size - a := by simp
  have r1 : 0 < (t.extract a t.size).size := by omega
  have r2 : (t.extract a t.size)[0] = 34 := by
    have : (t.extract a t.size).data.toList[0]? = some 34 := by rw [er]; rfl
    have hh : 0 < (t.extract a t.size).data.toList.length := by rw [bytes_len]; omega
    rw [List.getElem?_eq_getElem hh] at this
    simpa [ByteArray.getElem_eq_getElem_data] using this
  have r3 : (t.extract a t.size).toList ≠ [] := by rw [ByteArray.toList_eq, er]; simp
  have KS := take_any w0 rb t a d 1 6 _ hD (by omega)
  have HS := hide KS
  have HG := hide (And.intro gA (And.intro uA (And.intro hlt hsz)))
  have HR := hide (show (t.extract a t.size).size = t.size - a ∧ (t.extract a t.size).toList ≠ [] ∧ ∃ hh : 0 < (t.extract a t.size).size, (t.extract a t.size)[0]'hh = 34 from ⟨r0, r3, r1, r2⟩)
  clear h uA hA gA hlt hsz hD KS r2 r1 r0 r3 er hr
  unfold zer11 at HG c0 c1 HS
  unfold pc0 pcV at HS
  have aI : (a : Int) ≤ (t.size : Int) := by omega
  go_enter Tryz.func16, Tryz.ntmps16
  go_wp2_with fail
  go_region
  obtain ⟨r0, r3, r1, r2⟩ := HR.out
  clear HR
  generalize t.extract a t.size = r at *
  have s1 : (r.toList == []) = false := by simpa using r3
  have s2 : (0 : Int) < (r.size : Int) := by omega
  clear r0
  go_wp2_with (go_at_call 27; refine HS.out.mono ?_; rintro e w2 ⟨rfl, h2, k2⟩; have g2 := k2.old (Nat.ne_of_gt HG.out.2.2.1) HG.out.1; obtain ⟨f0, f1, f2, f3, f4, f5, f6, f7, f8, f9, f10⟩ := frozen11 g2; obtain ⟨d0, d1, d2, d3, d4, d5, d6, d7, d8, d9, d10⟩ := cells11 g2; have H2 := hide h2; have HK2 := hide k2; have HG2 := hide g2; clear h2 k2 g2)
  obtain ⟨q1, q2⟩ := sto11 HG2.out (.int .i64 a) (.int .i64 ((a : Int) + 1)) (.int .i64 6) (.int .i64 0) (.int .i64 0) (.bool false) (.slice none 0 0) (.string ⟨#[]⟩) (.slice none 0 0) (.slice none 0 0) (.int .i64 0)
  clear f0 f1 f2 f3 f4 f5 f6 f7 f8 f9 f10 d0 d1 d2 d3 d4 d5 d6 d7 d8 d9 d10
  generalize (((((((((((w2.setCell ⟨w.heap.size, 0, none⟩ (.int .i64 a)).setCell ⟨w.heap.size, 1, none⟩ (.int .i64 ((a : Int) + 1))).setCell ⟨w.heap.size, 2, none⟩ (.int .i64 6)).setCell ⟨w.heap.size, 3, none⟩ (.int .i64 0)).setCell ⟨w.heap.size, 4, none⟩ (.int .i64 0)).setCell ⟨w.heap.size, 5, none⟩ (.bool false)).setCell ⟨w.heap.size, 6, none⟩ (.slice none 0 0)).setCell ⟨w.heap.size, 7, none⟩ (.string ⟨#[]⟩)).setCell ⟨w.heap.size, 8, none⟩ (.slice none 0 0)).setCell ⟨w.heap.size, 9, none⟩ (.slice none 0 0)).setCell ⟨w.heap.size, 10, none⟩ (.int .i64 0)) = W4 at *
  obtain ⟨d0, d1, d2, d3, d4, d5, d6, d7, d8, d9, d10⟩ := cells11 q1
  refine bodyPost_ret (by simp [results, Tryz.results16, go_sem, d0, d1, d2, d3, d4, d5, d6, d7, d8, d9, d10]; rfl) rfl ?_
  obtain ⟨-, uA, hlt, hsz⟩ := HG.out
  exact ⟨by simp [pc0, pcV], ⟨q2.up H2.out.up hsz, H2.out.ge, q2.old (Nat.ne_of_lt hlt) H2.out.cs⟩, Kr.join uA ((Kr.of_up (up_drew _)).tr HK2.out) q2 (Nat.le_refl _)⟩

end Go.Proofs.YtfplplobhmacoaaGreatDoor
