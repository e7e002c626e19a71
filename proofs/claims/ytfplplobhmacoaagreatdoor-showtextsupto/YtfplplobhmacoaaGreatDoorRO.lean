/-
  What is proved here: package read's datum, at the beginning of a text and at a character.
-/
import Derived.Test.YtfplplobhmacoaaGreatDoorRM
import Derived.Test.YtfplplobhmacoaaGreatDoorRK
import Derived.Test.YtfplplobhmacoaaGreatDoorRN
namespace Go.Proofs.YtfplplobhmacoaaGreatDoor
open Go Go.RowKit

theorem RS.more5 {w0 : World} {rb : Nat} {t : ByteArray} {a d : Nat} {w w' : World} (h : RS w0 rb t a d w) (u : Up w w') : RS w0 rb t a d w' := ⟨h.up.tr u, h.ge, u.old h.cs⟩

set_option maxHeartbeats 4000000 in
set_option maxRecDepth 100000 in
theorem rdatum_quote (w0 : World) (rb : Nat) (t : ByteArray) (a d : Nat) (p q : Int) (l r : List UInt8) (w : World) (h : RS w0 rb t a d w) (ht : t.size ≤ 100000000) (hr : t.data.toList.drop a = tsW l ++ 34 :: r) :
    Calls Tryz.prog 12 #[.pointer (some ⟨rb, 0, none⟩), pc0 p q 6] w fun e w' => e = .returned (pcV p ((a + (tsW l).length + 1 : Nat) : Int) 10 (.int .i64 4) (.int .i64 0) (.bool false) (.slice none 0 0) (.string ⟨l.toArray⟩) (.slice none 0 0) (.slice none 0 0) 0) ∧ RS w0 rb t (a + (tsW l).length + 1) d w' ∧ Kr rb w w' := by
  have u1 := up_alloc w (.cells #[.int .i64 p, .int .i64 q, .int .i64 6, .int .i64 0, .int .i64 0, .bool false, .slice none 0 0, .string ⟨#[]⟩, .slice none 0 0, .slice none 0 0, .int .i64 0] 44)
  have g1 := heap_alloc_new w (.cells #[.int .i64 p, .int .i64 q, .int .i64 6, .int .i64 0, .int .i64 0, .bool false, .slice none 0 0, .string ⟨#[]⟩, .slice none 0 0, .slice none 0 0, .int .i64 0] 44)
  have z1 : (w.alloc (.cells #[.int .i64 p, .int .i64 q, .int .i64 6, .int .i64 0, .int .i64 0, .bool false, .slice none 0 0, .string ⟨#[]⟩, .slice none 0 0, .slice none 0 0, .int .i64 0] 44)).heap.size = w.heap.size + 1 := World.size_alloc _ _
  obtain ⟨W1, hW1⟩ : ∃ W1, W1 = w.alloc (.cells #[.int .i64 p, .int .i64 q, .int .i64 6, .int .i64 0, .int .i64 0, .bool false, .slice none 0 0, .string ⟨#[]⟩, .slice none 0 0, .slice none 0 0, .int .i64 0] 44) := ⟨_, rfl⟩
  rw [← hW1] at u1 g1 z1
  have u2 := up_alloc W1 zer11
  have g2 : (W1.alloc zer11).heap[w.heap.size + 1]? = some zer11 := by rw [← z1]; exact heap_alloc_new W1 zer11
  have g1' := u2.old g1
  have uB := u1.tr u2
  have hlt : rb < w.heap.size := h.lt
  have hsz : w0.heap.size ≤ w.heap.size := h.up.size
  have hA : RS w0 rb t a d (W1.alloc zer11) := ⟨h.up.tr uB, h.ge, uB.old h.cs⟩
  obtain ⟨m0, m1, m2, m3, m4, m5, m6, m7, m8, m9, m10⟩ := cells11 g1'
  have KQ := quoted_any w0 rb t a d p q 6 l r _ hA ht hr
  have HQ := hide KQ
  have HG := hide (And.intro g2 (And.intro uB (And.intro hlt hsz)))
  rw [hW1] at HQ HG m0 m1 m2 m3 m4 m5 m6 m7 m8 m9 m10
  unfold zer11 at HQ HG m0 m1 m2 m3 m4 m5 m6 m7 m8 m9 m10
  unfold pc0 pcV at HQ
  unfold pc0 pcV
  clear KQ u1 g1 z1 u2 g2 g1' uB hA h hlt hsz
  clear hW1 W1
  go_enter Tryz.func12, Tryz.ntmps12
  go_wp2_with (go_at_call 20; refine HQ.out.mono ?_; rintro e w5 ⟨rfl, h5, k5⟩; clear m0 m1 m2 m3 m4 m5 m6 m7 m8 m9 m10; have g5 := k5.old (by have := HG.out.2.2.1; omega) HG.out.1; obtain ⟨f0, f1, f2, f3, f4, f5, f6, f7, f8, f9, f10⟩ := frozen11 g5; obtain ⟨d0, d1, d2, d3, d4, d5, d6, d7, d8, d9, d10⟩ := cells11 g5; have H5 := hide (And.intro h5 (And.intro k5 g5)); clear h5 k5 g5)
  obtain ⟨h5, k5, g5⟩ := H5.out
  obtain ⟨q1, q2⟩ := sto11 g5 (.int .i64 p) (.int .i64 ((a : Int) + ((tsW l).length : Int) + 1)) (.int .i64 10) (.int .i64 4) (.int .i64 0) (.bool false) (.slice none 0 0) (.string ⟨l.toArray⟩) (.slice none 0 0) (.slice none 0 0) (.int .i64 0)
  clear f0 f1 f2 f3 f4 f5 f6 f7 f8 f9 f10 d0 d1 d2 d3 d4 d5 d6 d7 d8 d9 d10
  generalize (((((((((((w5.setCell ⟨(w.heap.size + 1), 0, none⟩ (.int .i64 p)).setCell ⟨(w.heap.size + 1), 1, none⟩ (.int .i64 ((a : Int) + ((tsW l).length : Int) + 1))).setCell ⟨(w.heap.size + 1), 2, none⟩ (.int .i64 10)).setCell ⟨(w.heap.size + 1), 3, none⟩ (.int .i64 4)).setCell ⟨(w.heap.size + 1), 4, none⟩ (.int .i64 0)).setCell ⟨(w.heap.size + 1), 5, none⟩ (.bool false)).setCell ⟨(w.heap.size + 1), 6, none⟩ (.slice none 0 0)).setCell ⟨(w.heap.size + 1), 7, none⟩ (.string ⟨l.toArray⟩)).setCell ⟨(w.heap.size + 1), 8, none⟩ (.slice none 0 0)).setCell ⟨(w.heap.size + 1), 9, none⟩ (.slice none 0 0)).setCell ⟨(w.heap.size + 1), 10, none⟩ (.int .i64 0)) = W6 at *
  obtain ⟨d0, d1, d2, d3, d4, d5, d6, d7, d8, d9, d10⟩ := cells11 q1
  refine bodyPost_ret (by simp [results, Tryz.results12, go_sem, d0, d1, d2, d3, d4, d5, d6, d7, d8, d9, d10]; rfl) rfl ?_
  obtain ⟨-, uB, hlt, hsz⟩ := HG.out
  exact ⟨by simp , ⟨q2.up h5.up (by omega), h5.ge, q2.old (by omega) h5.cs⟩, Kr.join uB k5 q2 (by omega)⟩

set_option maxHeartbeats 4000000 in
set_option maxRecDepth 100000 in
theorem rdatum_char (w0 : World) (rb : Nat) (t : ByteArray) (a d x y n : Nat) (w : World) (h : RS w0 rb t a d w) (hab : x ≤ y) (hb : y ≤ t.size) (ht : t.size ≤ 100000000) (hn : n < 256) (he : (t.extract x y).data.toList = 35 :: 92 :: chW n) :
    Calls Tryz.prog 12 #[.pointer (some ⟨rb, 0, none⟩), pc0 x y 7] w fun e w' => e = .returned (pcV x y 10 (.int .i64 3) (.int .i64 n) (.bool false) (.slice none 0 0) (.string ⟨#[]⟩) (.slice none 0 0) (.slice none 0 0) 0) ∧ RS w0 rb t a d w' ∧ Kr rb w w' := by
  have u1 := up_alloc w (.cells #[.int .i64 x, .int .i64 y, .int .i64 7, .int .i64 0, .int .i64 0, .bool false, .slice none 0 0, .string ⟨#[]⟩, .slice none 0 0, .slice none 0 0, .int .i64 0] 44)
  have g1 := heap_alloc_new w (.cells #[.int .i64 x, .int .i64 y, .int .i64 7, .int .i64 0, .int .i64 0, .bool false, .slice none 0 0, .string ⟨#[]⟩, .slice none 0 0, .slice none 0 0, .int .i64 0] 44)
  have z1 : (w.alloc (.cells #[.int .i64 x, .int .i64 y, .int .i64 7, .int .i64 0, .int .i64 0, .bool false, .slice none 0 0, .string ⟨#[]⟩, .slice none 0 0, .slice none 0 0, .int .i64 0] 44)).heap.size = w.heap.size + 1 := World.size_alloc _ _
  obtain ⟨W1, hW1⟩ : ∃ W1, W1 = w.alloc (.cells #[.int .i64 x, .int .i64 y, .int .i64 7, .int .i64 0, .int .i64 0, .bool false, .slice none 0 0, .string ⟨#[]⟩, .slice none 0 0, .slice none 0 0, .int .i64 0] 44) := ⟨_, rfl⟩
  rw [← hW1] at u1 g1 z1
  have u2 := up_alloc W1 zer11
  have g2 : (W1.alloc zer11).heap[w.heap.size + 1]? = some zer11 := by rw [← z1]; exact heap_alloc_new W1 zer11
  have g1' := u2.old g1
  have uB := u1.tr u2
  have hlt : rb < w.heap.size := h.lt
  have hsz : w0.heap.size ≤ w.heap.size := h.up.size
  have hA : RS w0 rb t a d (W1.alloc zer11) := ⟨h.up.tr uB, h.ge, uB.old h.cs⟩
  obtain ⟨m0, m1, m2, m3, m4, m5, m6, m7, m8, m9, m10⟩ := cells11 g1'
  have HA := hide hA
  have KQ := letter_ch w0 rb t a d x y n 7 _ hA hab hb ht hn he
  have HQ := hide KQ
  have HG := hide (And.intro g2 (And.intro uB (And.intro hlt hsz)))
  rw [hW1] at HQ HG HA m0 m1 m2 m3 m4 m5 m6 m7 m8 m9 m10
  unfold zer11 at HQ HG HA m0 m1 m2 m3 m4 m5 m6 m7 m8 m9 m10
  unfold pc0 pcV at HQ
  unfold pc0 pcV
  clear KQ u1 g1 z1 u2 g2 g1' uB hA h hlt hsz
  clear hW1 W1
  go_enter Tryz.func12, Tryz.ntmps12
  go_wp2_with (go_at_call 21; refine HQ.out.mono ?_; rintro e w5 ⟨rfl, u5⟩; have k5 : Kr rb _ w5 := Kr.of_up u5; have h5 : RS w0 rb t a d w5 := (HA.out.more5 u5); clear u5; clear m0 m1 m2 m3 m4 m5 m6 m7 m8 m9 m10; have g5 := k5.old (by have := HG.out.2.2.1; omega) HG.out.1; obtain ⟨f0, f1, f2, f3, f4, f5, f6, f7, f8, f9, f10⟩ := frozen11 g5; obtain ⟨d0, d1, d2, d3, d4, d5, d6, d7, d8, d9, d10⟩ := cells11 g5; have H5 := hide (And.intro h5 (And.intro k5 g5)); clear h5 k5 g5)
  obtain ⟨h5, k5, g5⟩ := H5.out
  obtain ⟨q1, q2⟩ := sto11 g5 (.int .i64 x) (.int .i64 y) (.int .i64 10) (.int .i64 3) (.int .i64 n) (.bool false) (.slice none 0 0) (.string ⟨#[]⟩) (.slice none 0 0) (.slice none 0 0) (.int .i64 0)
  clear f0 f1 f2 f3 f4 f5 f6 f7 f8 f9 f10 d0 d1 d2 d3 d4 d5 d6 d7 d8 d9 d10
  generalize (((((((((((w5.setCell ⟨(w.heap.size + 1), 0, none⟩ (.int .i64 x)).setCell ⟨(w.heap.size + 1), 1, none⟩ (.int .i64 y)).setCell ⟨(w.heap.size + 1), 2, none⟩ (.int .i64 10)).setCell ⟨(w.heap.size + 1), 3, none⟩ (.int .i64 3)).setCell ⟨(w.heap.size + 1), 4, none⟩ (.int .i64 n)).setCell ⟨(w.heap.size + 1), 5, none⟩ (.bool false)).setCell ⟨(w.heap.size + 1), 6, none⟩ (.slice none 0 0)).setCell ⟨(w.heap.size + 1), 7, none⟩ (.string ⟨#[]⟩)).setCell ⟨(w.heap.size + 1), 8, none⟩ (.slice none 0 0)).setCell ⟨(w.heap.size + 1), 9, none⟩ (.slice none 0 0)).setCell ⟨(w.heap.size + 1), 10, none⟩ (.int .i64 0)) = W6 at *
  obtain ⟨d0, d1, d2, d3, d4, d5, d6, d7, d8, d9, d10⟩ := cells11 q1
  refine bodyPost_ret (by simp [results, Tryz.results12, go_sem, d0, d1, d2, d3, d4, d5, d6, d7, d8, d9, d10]; rfl) rfl ?_
  obtain ⟨-, uB, hlt, hsz⟩ := HG.out
  exact ⟨by simp , ⟨q2.up h5.up (by omega), h5.ge, q2.old (by omega) h5.cs⟩, Kr.join uB k5 q2 (by omega)⟩

end Go.Proofs.YtfplplobhmacoaaGreatDoor
