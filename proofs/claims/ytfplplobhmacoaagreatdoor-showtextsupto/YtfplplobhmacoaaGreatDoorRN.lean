/-
  What is proved here: package read's next, where the first piece is no blank.
-/
import Derived.Test.YtfplplobhmacoaaGreatDoorRA
import Derived.Test.YtfplplobhmacoaaGreatDoorSAwake
import Derived.WalkMore
namespace Go.Proofs.YtfplplobhmacoaaGreatDoor
open Go Go.RowKit

set_option maxHeartbeats 4000000 in
set_option maxRecDepth 100000 in
theorem next_one (w0 : World) (rb : Nat) (t : ByteArray) (a2 d : Nat) (a a1 : Nat) (b k : Int) (w : World) (h : RS w0 rb t a1 d w) (hk : ¬ k = 1 ∧ ¬ k = 2)
    (hp : ∀ W, RS w0 rb t a1 d W → Calls Tryz.prog 16 #[.pointer (some ⟨rb, 0, none⟩)] W fun e w' => e = .returned (pc0 a b k) ∧ RS w0 rb t a2 d w' ∧ Kr rb W w') :
    Calls Tryz.prog 11 #[.pointer (some ⟨rb, 0, none⟩)] w fun e w' => e = .returned (pc0 a b k) ∧ RS w0 rb t a2 d w' ∧ Kr rb w w' := by
  have uA := up_alloc w zer11
  have hA : RS w0 rb t a1 d (w.alloc zer11) := ⟨h.up.tr uA, h.ge, uA.old h.cs⟩
  have gA : (w.alloc zer11).heap[w.heap.size]? = some zer11 := heap_alloc_new w zer11
  have hlt := h.lt
  have hsz : w0.heap.size ≤ w.heap.size := h.up.size
  have KP := hp _ hA
  have HP := hide KP
  have HG := hide (And.intro gA (And.intro uA (And.intro hlt hsz)))
  obtain ⟨n1, n2⟩ := hk
  clear KP h uA hA gA hlt hsz hp
  unfold pc0 pcV at HP
  unfold zer11 at HP HG
  go_enter Tryz.func11, Tryz.ntmps11
  go_wp2_with fail
  go_step3
  go_wp2_with fail
  go_step3
  go_wp2_with (go_at_call 16; refine HP.out.mono ?_; rintro e w2 ⟨rfl, h2, k2⟩; have g2 := k2.old (Nat.ne_of_gt HG.out.2.2.1) HG.out.1; have H2 := hide h2; have HK2 := hide k2; have u3 := up_alloc w2 (.cells #[.int .i64 a, .int .i64 b, .int .i64 k, .int .i64 0, .int .i64 0, .bool false, .slice none 0 0, .string ⟨#[]⟩, .slice none 0 0, .slice none 0 0, .int .i64 0] 44); have g3 := u3.old g2; obtain ⟨f0, f1, f2, f3, f4, f5, f6, f7, f8, f9, f10⟩ := frozen11 g3; obtain ⟨d0, d1, d2, d3, d4, d5, d6, d7, d8, d9, d10⟩ := cells11 g3; have HG3 := hide (And.intro g3 u3); clear h2 k2 g2 g3 u3)
  obtain ⟨g3, u3⟩ := HG3.out
  obtain ⟨q1, q2⟩ := sto11 g3 (.int .i64 a) (.int .i64 b) (.int .i64 k) (.int .i64 0) (.int .i64 0) (.bool false) (.slice none 0 0) (.string ⟨#[]⟩) (.slice none 0 0) (.slice none 0 0) (.int .i64 0)
  clear f0 f1 f2 f3 f4 f5 f6 f7 f8 f9 f10 d0 d1 d2 d3 d4 d5 d6 d7 d8 d9 d10
  generalize w2.alloc (.cells #[.int .i64 a, .int .i64 b, .int .i64 k, .int .i64 0, .int .i64 0, .bool false, .slice none 0 0, .string ⟨#[]⟩, .slice none 0 0, .slice none 0 0, .int .i64 0] 44) = W3 at *
  generalize (((((((((((W3.setCell ⟨w.heap.size, 0, none⟩ (.int .i64 a)).setCell ⟨w.heap.size, 1, none⟩ (.int .i64 b)).setCell ⟨w.heap.size, 2, none⟩ (.int .i64 k)).setCell ⟨w.heap.size, 3, none⟩ (.int .i64 0)).setCell ⟨w.heap.size, 4, none⟩ (.int .i64 0)).setCell ⟨w.heap.size, 5, none⟩ (.bool false)).setCell ⟨w.heap.size, 6, none⟩ (.slice none 0 0)).setCell ⟨w.heap.size, 7, none⟩ (.string ⟨#[]⟩)).setCell ⟨w.heap.size, 8, none⟩ (.slice none 0 0)).setCell ⟨w.heap.size, 9, none⟩ (.slice none 0 0)).setCell ⟨w.heap.size, 10, none⟩ (.int .i64 0)) = W4 at *
  obtain ⟨d0, d1, d2, d3, d4, d5, d6, d7, d8, d9, d10⟩ := cells11 q1
  rw [Exit.noGoto_ret]
  refine bodyPost_ret (by simp [results, Tryz.results11, go_sem, d0, d1, d2, d3, d4, d5, d6, d7, d8, d9, d10]; rfl) rfl ?_
  obtain ⟨-, uA, hlt, hsz⟩ := HG.out
  have k1 := Kr.join uA (HK2.out.tr (Kr.of_up u3)) q2 (Nat.le_refl _)
  exact ⟨by simp [pc0, pcV], ⟨q2.up (H2.out.up.tr u3) hsz, H2.out.ge, q2.old (Nat.ne_of_lt hlt) (u3.old H2.out.cs)⟩, k1⟩

end Go.Proofs.YtfplplobhmacoaaGreatDoor
