/-
  What is proved here: package read's made.
-/
import Derived.Test.YtfplplobhmacoaaGreatDoorRA
import Derived.Test.YtfplplobhmacoaaGreatDoorSAwake
namespace Go.Proofs.YtfplplobhmacoaaGreatDoor
open Go Go.RowKit

set_option maxHeartbeats 2000000 in
set_option maxRecDepth 100000 in
theorem made_any (a b k n : Int) (bb : Bool) (t : ByteArray) (m1 i1 r1 : Option Addr) (m2 m3 i2 i3 r2 r3 : Nat) (w : World) :
    Calls Tryz.prog 33 #[.int .i64 a, .int .i64 b, .agg #[.int .i64 k, .int .i64 n, .bool bb, .slice m1 m2 m3, .string t, .slice i1 i2 i3, .slice r1 r2 r3]] w fun e w' => e = .returned (pcV a b 10 (.int .i64 k) (.int .i64 n) (.bool bb) (.slice m1 m2 m3) (.string t) (.slice i1 i2 i3) (.slice r1 r2 r3) 0) ∧ Up w w' := by
  go_enter Tryz.func33, Tryz.ntmps33
  go_wp2
  refine bodyPost_ret (by simp [results, Tryz.results33, go_sem]; rfl) rfl ?_
  exact ⟨rfl, (up_alloc w _).tr (up_alloc _ _)⟩

set_option maxHeartbeats 2000000 in
set_option maxRecDepth 100000 in
theorem fault_any (a e : Int) (w : World) :
    Calls Tryz.prog 18 #[.int .i64 a, .int .i64 e] w fun r w' => r = .returned (pcV a a 11 (.int .i64 0) (.int .i64 0) (.bool false) (.slice none 0 0) (.string ⟨#[]⟩) (.slice none 0 0) (.slice none 0 0) e) ∧ Up w w' := by
  go_enter Tryz.func18, Tryz.ntmps18
  go_wp2
  refine bodyPost_ret (by simp [results, Tryz.results18, go_sem]; rfl) rfl ?_
  exact ⟨rfl, up_alloc w _⟩

set_option maxHeartbeats 2000000 in
set_option maxRecDepth 100000 in
theorem stands_any (w0 : World) (rb : Nat) (t : ByteArray) (a d n : Nat) (c : Int) (w : World) (h : RS w0 rb t a d w) (ha : a + n ≤ 9223372036854775807) :
    Calls Tryz.prog 51 #[.pointer (some ⟨rb, 0, none⟩), .int .i64 (n : Int), .int .i64 c] w fun e w' => e = .returned (pcV a ((a + n : Nat) : Int) 10 (.int .i64 3) (.int .i64 c) (.bool false) (.slice none 0 0) (.string ⟨#[]⟩) (.slice none 0 0) (.slice none 0 0) 0) ∧ RS w0 rb t (a + n) d w' ∧ Kr rb w w' := by
  have uA := up_alloc w zer11
  have hA : RS w0 rb t a d (w.alloc zer11) := ⟨h.up.tr uA, h.ge, uA.old h.cs⟩
  have gA : (w.alloc zer11).heap[w.heap.size]? = some zer11 := heap_alloc_new w zer11
  have KT := take_any w0 rb t a d n 10 _ hA ha
  have HT := hide KT
  have hlt := h.lt
  have hsz : w0.heap.size ≤ w.heap.size := h.up.size
  have HG := hide (And.intro gA (And.intro uA (And.intro hlt hsz)))
  clear KT h uA hA gA hlt hsz
  unfold pc0 pcV at HT
  unfold zer11 at HT HG
  go_enter Tryz.func51, Tryz.ntmps51
  go_wp2_with (go_at_call 27; refine HT.out.mono ?_; rintro e w2 ⟨rfl, h2, k2⟩; have g2 := k2.old (Nat.ne_of_gt HG.out.2.2.1) HG.out.1; have u3 := up_alloc w2 (.cells #[.int .i64 a, .int .i64 ((a : Int) + (n : Int)), .int .i64 10, .int .i64 3, .int .i64 c, .bool false, .slice none 0 0, .string ⟨#[]⟩, .slice none 0 0, .slice none 0 0, .int .i64 0] 44); have g3 := u3.old g2; obtain ⟨f0, f1, f2, f3, f4, f5, f6, f7, f8, f9, f10⟩ := frozen11 g3; obtain ⟨d0, d1, d2, d3, d4, d5, d6, d7, d8, d9, d10⟩ := cells11 g3; have H2 := hide h2; have HK2 := hide k2; have HG3 := hide (And.intro g3 u3); clear h2 k2 g2 g3 u3)
  obtain ⟨g3, u3⟩ := HG3.out
  obtain ⟨q1, q2⟩ := sto11 g3 (.int .i64 a) (.int .i64 ((a : Int) + (n : Int))) (.int .i64 10) (.int .i64 3) (.int .i64 c) (.bool false) (.slice none 0 0) (.string ⟨#[]⟩) (.slice none 0 0) (.slice none 0 0) (.int .i64 0)
  clear f0 f1 f2 f3 f4 f5 f6 f7 f8 f9 f10 d0 d1 d2 d3 d4 d5 d6 d7 d8 d9 d10
  generalize w2.alloc (.cells #[.int .i64 a, .int .i64 ((a : Int) + (n : Int)), .int .i64 10, .int .i64 3, .int .i64 c, .bool false, .slice none 0 0, .string ⟨#[]⟩, .slice none 0 0, .slice none 0 0, .int .i64 0] 44) = W3 at *
  generalize (((((((((((W3.setCell ⟨w.heap.size, 0, none⟩ (.int .i64 a)).setCell ⟨w.heap.size, 1, none⟩ (.int .i64 ((a : Int) + (n : Int)))).setCell ⟨w.heap.size, 2, none⟩ (.int .i64 10)).setCell ⟨w.heap.size, 3, none⟩ (.int .i64 3)).setCell ⟨w.heap.size, 4, none⟩ (.int .i64 c)).setCell ⟨w.heap.size, 5, none⟩ (.bool false)).setCell ⟨w.heap.size, 6, none⟩ (.slice none 0 0)).setCell ⟨w.heap.size, 7, none⟩ (.string ⟨#[]⟩)).setCell ⟨w.heap.size, 8, none⟩ (.slice none 0 0)).setCell ⟨w.heap.size, 9, none⟩ (.slice none 0 0)).setCell ⟨w.heap.size, 10, none⟩ (.int .i64 0)) = W4 at *
  obtain ⟨d0, d1, d2, d3, d4, d5, d6, d7, d8, d9, d10⟩ := cells11 q1
  refine bodyPost_ret (by simp [results, Tryz.results51, go_sem, d0, d1, d2, d3, d4, d5, d6, d7, d8, d9, d10]; rfl) rfl ?_
  obtain ⟨-, uA, hlt, hsz⟩ := HG.out
  have k1 := Kr.join uA (HK2.out.tr (Kr.of_up u3)) q2 (Nat.le_refl _)
  exact ⟨by simp [pcV], ⟨q2.up (H2.out.up.tr u3) hsz, H2.out.ge, q2.old (Nat.ne_of_lt hlt) (u3.old H2.out.cs)⟩, k1⟩

end Go.Proofs.YtfplplobhmacoaaGreatDoor
