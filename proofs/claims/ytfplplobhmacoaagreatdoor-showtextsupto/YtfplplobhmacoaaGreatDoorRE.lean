/-
  What is proved here: package read's hexEscape and escape at the two digits of a byte.
-/
import Derived.Test.YtfplplobhmacoaaGreatDoorRD
namespace Go.Proofs.YtfplplobhmacoaaGreatDoor
open Go Go.RowKit

theorem hexP_two (v : Nat) (hv : v < 256) (l : List UInt8) : hexP (hexd (v / 16) :: hexd (v % 16) :: l) = ((v : Int), 2) := by
  have h1 := hx_hexd (v / 16) (by omega)
  have h2 := hx_hexd (v % 16) (by omega)
  simp only [hexP, h1, h2]
  rw [if_neg (by omega), if_neg (by omega)]
  congr 1
  omega

set_option maxHeartbeats 2000000 in
set_option maxRecDepth 100000 in
theorem hexEscape_yes (w0 : World) (rb : Nat) (t r : ByteArray) (a d v : Nat) (l : List UInt8) (w : World) (h : RS w0 rb t a d w) (hv : v < 256) (ha : a + 5 ≤ 1000000000) (hs : r.size ≤ 1000000000) (hr : r.data.toList = 92 :: 120 :: hexd (v / 16) :: hexd (v % 16) :: 59 :: l) :
    Calls Tryz.prog 52 #[.pointer (some ⟨rb, 0, none⟩), .string r] w fun e w' => e = .returned (pcV a ((a + 5 : Nat) : Int) 10 (.int .i64 3) (.int .i64 v) (.bool false) (.slice none 0 0) (.string ⟨#[]⟩) (.slice none 0 0) (.slice none 0 0) 0) ∧ RS w0 rb t (a + 5) d w' ∧ Kr rb w w' := by
  have uA := up_alloc w zer11
  have hA : RS w0 rb t a d (w.alloc zer11) := ⟨h.up.tr uA, h.ge, uA.old h.cs⟩
  have gA : (w.alloc zer11).heap[w.heap.size]? = some zer11 := heap_alloc_new w zer11
  have hlt := h.lt
  have hsz : w0.heap.size ≤ w.heap.size := h.up.size
  have KS := stands_any w0 rb t a d 5 v _ hA (by omega)
  have HS := hide KS
  have HG := hide (And.intro gA (And.intro uA (And.intro hlt hsz)))
  have z0 : r.size = l.length + 5 := by rw [← bytes_len, hr]; rfl
  have KH := fun (W : World) => hexBegin_any (r.extract 2 r.size) W (by simp; omega)
  have e0 : (r.extract 2 r.size).data.toList = hexd (v / 16) :: hexd (v % 16) :: 59 :: l := by
    have : (r.extract 2 r.size).data.toList = r.data.toList.drop 2 := by
      rw [ByteArray.data_extract, Array.toList_extract]
      have hl : r.size = r.data.toList.length := (bytes_len r).symm
      rw [hl]
      simp only [List.extract_eq_take_drop]
      exact List.take_of_length_le (by rw [List.length_drop]; omega)
    rw [this, hr]; rfl
  rw [e0, hexP_two v hv] at KH
  have HH := hide KH
  have r1 : 4 < r.size := by omega
  have r2 : r[4] = 59 := by
    have : r.data.toList[4]? = some 59 := by rw [hr]; rfl
    simpa [ByteArray.getElem_eq_getElem_data, Array.getElem?_eq_getElem, r1] using this
  have s1 : ¬ ((4 : Int) = (r.size : Int)) := by omega
  have s2 : (4 : Int) < (r.size : Int) := by omega
  have s3 : (2 : Int) ≤ (r.size : Int) := by omega
  have s4 : 2 ≤ r.size := by omega
  clear h uA hA gA hlt hsz KS KH e0 z0 hr hv hs
  unfold zer11 at HG HS
  unfold pcV at HS
  go_enter Tryz.func52, Tryz.ntmps52
  go_wp2_with (first
    | (go_at_call 53; refine (HH.out _).mono ?_; rintro e w1 ⟨rfl, rfl⟩)
    | (go_at_call 51; refine HS.out.mono ?_; rintro e w2 ⟨rfl, h2, k2⟩; have g2 := k2.old (Nat.ne_of_gt HG.out.2.2.1) HG.out.1; obtain ⟨f0, f1, f2, f3, f4, f5, f6, f7, f8, f9, f10⟩ := frozen11 g2; obtain ⟨d0, d1, d2, d3, d4, d5, d6, d7, d8, d9, d10⟩ := cells11 g2; have H2 := hide h2; have HK2 := hide k2; have HG2 := hide g2; clear h2 k2 g2))
  obtain ⟨q1, q2⟩ := sto11 HG2.out (.int .i64 a) (.int .i64 ((a : Int) + 5)) (.int .i64 10) (.int .i64 3) (.int .i64 v) (.bool false) (.slice none 0 0) (.string ⟨#[]⟩) (.slice none 0 0) (.slice none 0 0) (.int .i64 0)
  clear f0 f1 f2 f3 f4 f5 f6 f7 f8 f9 f10 d0 d1 d2 d3 d4 d5 d6 d7 d8 d9 d10
  generalize (((((((((((w2.setCell ⟨w.heap.size, 0, none⟩ (.int .i64 a)).setCell ⟨w.heap.size, 1, none⟩ (.int .i64 ((a : Int) + 5))).setCell ⟨w.heap.size, 2, none⟩ (.int .i64 10)).setCell ⟨w.heap.size, 3, none⟩ (.int .i64 3)).setCell ⟨w.heap.size, 4, none⟩ (.int .i64 v)).setCell ⟨w.heap.size, 5, none⟩ (.bool false)).setCell ⟨w.heap.size, 6, none⟩ (.slice none 0 0)).setCell ⟨w.heap.size, 7, none⟩ (.string ⟨#[]⟩)).setCell ⟨w.heap.size, 8, none⟩ (.slice none 0 0)).setCell ⟨w.heap.size, 9, none⟩ (.slice none 0 0)).setCell ⟨w.heap.size, 10, none⟩ (.int .i64 0)) = W4 at *
  obtain ⟨d0, d1, d2, d3, d4, d5, d6, d7, d8, d9, d10⟩ := cells11 q1
  refine bodyPost_ret (by simp [results, Tryz.results52, go_sem, d0, d1, d2, d3, d4, d5, d6, d7, d8, d9, d10]; rfl) rfl ?_
  obtain ⟨-, uA, hlt, hsz⟩ := HG.out
  exact ⟨by simp [pcV], ⟨q2.up H2.out.up hsz, H2.out.ge, q2.old (Nat.ne_of_lt hlt) H2.out.cs⟩, Kr.join uA HK2.out q2 (Nat.le_refl _)⟩

theorem ext_list (t : ByteArray) (a : Nat) (_ha : a ≤ t.size) : (t.extract a t.size).data.toList = t.data.toList.drop a := by
  rw [ByteArray.data_extract, Array.toList_extract]
  have hl : t.size = t.data.toList.length := (bytes_len t).symm
  rw [hl]
  simp only [List.extract_eq_take_drop]
  exact List.take_of_length_le (by rw [List.length_drop]; omega)

set_option maxHeartbeats 2000000 in
set_option maxRecDepth 100000 in
theorem escape_hex (w0 : World) (rb : Nat) (t : ByteArray) (a d v : Nat) (l : List UInt8) (w : World) (h : RS w0 rb t a d w) (hv : v < 256) (ht : t.size ≤ 100000000) (hr : t.data.toList.drop a = 92 :: 120 :: hexd (v / 16) :: hexd (v % 16) :: 59 :: l) :
    Calls Tryz.prog 34 #[.pointer (some ⟨rb, 0, none⟩)] w fun e w' => e = .returned (pcV a ((a + 5 : Nat) : Int) 10 (.int .i64 3) (.int .i64 v) (.bool false) (.slice none 0 0) (.string ⟨#[]⟩) (.slice none 0 0) (.slice none 0 0) 0) ∧ RS w0 rb t (a + 5) d w' ∧ Kr rb w w' := by
  have uA := up_alloc w zer11
  have hA : RS w0 rb t a d (w.alloc zer11) := ⟨h.up.tr uA, h.ge, uA.old h.cs⟩
  have gA : (w.alloc zer11).heap[w.heap.size]? = some zer11 := heap_alloc_new w zer11
  have hlt := h.lt
  have hsz : w0.heap.size ≤ w.heap.size := h.up.size
  have c0 : (w.alloc zer11).cell? ⟨rb, 0, none⟩ = some (.string t) := cell_of_row _ rb 0 _ _ _ hA.cs
  have c1 : (w.alloc zer11).cell? ⟨rb, 1, none⟩ = some (.int .i64 a) := cell_of_row _ rb 1 _ _ _ hA.cs
  have hD : RS w0 rb t a d (w.alloc zer11).drew := ⟨hA.up.tr (up_drew _), hA.ge, hA.cs⟩
  have zl : t.size - a = l.length + 5 := by rw [← bytes_len, ← List.length_drop, hr]; rfl
  have er := ext_list t a (by omega)
  rw [hr] at er
  have r0 : (t.extract a t.size).size = t.size - a := by simp
  have r1 : 1 < (t.extract a t.size).size := by omega
  have r2 : (t.extract a t.size)[1] = 120 := by
    have : (t.extract a t.size).data.toList[1]? = some 120 := by rw [er]; rfl
    have hh : 1 < (t.extract a t.size).data.toList.length := by rw [bytes_len]; omega
    rw [List.getElem?_eq_getElem hh] at this
    simpa [ByteArray.getElem_eq_getElem_data] using this
  have KS := hexEscape_yes w0 rb t (t.extract a t.size) a d v l _ hD hv (by omega) (by omega) er
  have HS := hide KS
  have HG := hide (And.intro gA (And.intro uA (And.intro hlt hsz)))
  have HR := hide (show (t.extract a t.size).size = t.size - a ∧ ∃ hh : 1 < (t.extract a t.size).size, (t.extract a t.size)[1]'hh = 120 from ⟨r0, r1, r2⟩)
  have hsa : 5 ≤ t.size - a := by omega
  clear h uA hA gA hlt hsz hD KS r2 r1 r0 er hr zl hv
  unfold zer11 at HG c0 c1 HS
  unfold pcV at HS
  have aI : (a : Int) ≤ (t.size : Int) := by omega
  go_enter Tryz.func34, Tryz.ntmps34
  go_wp2_with fail
  go_region
  obtain ⟨r0, r1, r2⟩ := HR.out
  clear HR
  generalize t.extract a t.size = r at *
  have s1 : ¬ ((r.size : Int) = 1) := by omega
  have s2 : (1 : Int) < (r.size : Int) := by omega
  clear r0
  go_wp2_with (go_at_call 52; refine HS.out.mono ?_; rintro e w2 ⟨rfl, h2, k2⟩; have g2 := k2.old (Nat.ne_of_gt HG.out.2.2.1) HG.out.1; obtain ⟨f0, f1, f2, f3, f4, f5, f6, f7, f8, f9, f10⟩ := frozen11 g2; obtain ⟨d0, d1, d2, d3, d4, d5, d6, d7, d8, d9, d10⟩ := cells11 g2; have H2 := hide h2; have HK2 := hide k2; have HG2 := hide g2; clear h2 k2 g2)
  obtain ⟨q1, q2⟩ := sto11 HG2.out (.int .i64 a) (.int .i64 ((a : Int) + 5)) (.int .i64 10) (.int .i64 3) (.int .i64 v) (.bool false) (.slice none 0 0) (.string ⟨#[]⟩) (.slice none 0 0) (.slice none 0 0) (.int .i64 0)
  clear f0 f1 f2 f3 f4 f5 f6 f7 f8 f9 f10 d0 d1 d2 d3 d4 d5 d6 d7 d8 d9 d10
  generalize (((((((((((w2.setCell ⟨w.heap.size, 0, none⟩ (.int .i64 a)).setCell ⟨w.heap.size, 1, none⟩ (.int .i64 ((a : Int) + 5))).setCell ⟨w.heap.size, 2, none⟩ (.int .i64 10)).setCell ⟨w.heap.size, 3, none⟩ (.int .i64 3)).setCell ⟨w.heap.size, 4, none⟩ (.int .i64 v)).setCell ⟨w.heap.size, 5, none⟩ (.bool false)).setCell ⟨w.heap.size, 6, none⟩ (.slice none 0 0)).setCell ⟨w.heap.size, 7, none⟩ (.string ⟨#[]⟩)).setCell ⟨w.heap.size, 8, none⟩ (.slice none 0 0)).setCell ⟨w.heap.size, 9, none⟩ (.slice none 0 0)).setCell ⟨w.heap.size, 10, none⟩ (.int .i64 0)) = W4 at *
  obtain ⟨d0, d1, d2, d3, d4, d5, d6, d7, d8, d9, d10⟩ := cells11 q1
  refine bodyPost_ret (by simp [results, Tryz.results34, go_sem, d0, d1, d2, d3, d4, d5, d6, d7, d8, d9, d10]; rfl) rfl ?_
  obtain ⟨-, uA, hlt, hsz⟩ := HG.out
  exact ⟨by simp [pcV], ⟨q2.up H2.out.up hsz, H2.out.ge, q2.old (Nat.ne_of_lt hlt) H2.out.cs⟩, Kr.join uA ((Kr.of_up (up_drew _)).tr HK2.out) q2 (Nat.le_refl _)⟩

end Go.Proofs.YtfplplobhmacoaaGreatDoor
