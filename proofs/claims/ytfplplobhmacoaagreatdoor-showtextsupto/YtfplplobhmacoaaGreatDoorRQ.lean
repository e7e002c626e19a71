/-
  What is proved here: tandemlaw00.Same of two data without parts that are the same.
-/
import Derived.Test.YtfplplobhmacoaaGreatDoorRP
namespace Go.Proofs.YtfplplobhmacoaaGreatDoor
open Go Go.RowKit

theorem dlx_hexd (v : Nat) (hv : v < 16) : dlx (hexd v) < 0 := by
  have : v = 0 ∨ v = 1 ∨ v = 2 ∨ v = 3 ∨ v = 4 ∨ v = 5 ∨ v = 6 ∨ v = 7 ∨ v = 8 ∨ v = 9 ∨ v = 10 ∨ v = 11 ∨ v = 12 ∨ v = 13 ∨ v = 14 ∨ v = 15 := by omega
  rcases this with rfl | rfl | rfl | rfl | rfl | rfl | rfl | rfl | rfl | rfl | rfl | rfl | rfl | rfl | rfl | rfl <;> decide
theorem chW_tok (n : Nat) (hn : n < 256) : ∃ c l, chW (n : Int) = c :: l ∧ tokL l = l.length := by
  unfold chW
  split
  · exact ⟨_, _, rfl, by decide⟩
  split
  · exact ⟨_, _, rfl, by decide⟩
  split
  · exact ⟨_, _, rfl, by decide⟩
  split
  · exact ⟨_, _, rfl, by decide⟩
  split
  · exact ⟨_, _, rfl, by decide⟩
  · refine ⟨_, _, rfl, ?_⟩
    have e : ((n : Int) % 256).toNat = n := by omega
    rw [e]
    have h1 := dlx_hexd (n / 16) (by omega)
    have h2 := dlx_hexd (n % 16) (by omega)
    simp [two, tokL, h1, h2]

theorem sameL_nil (w : World) : Calls Tryz.prog 26 #[.slice none 0 0, .slice none 0 0] w fun e w' => e = .returned (.bool true) ∧ w' = w := by
  go_enter Tryz.func26, Tryz.ntmps26
  go_wp2_with fail
  go_loopw [5] (fun a5 wr => wr = w ∧ a5 = .int .i64 0) (fun _ _ => 0)
  case atStart => exact ⟨rfl, rfl⟩
  case round =>
    obtain ⟨rfl, rfl⟩ := hrel
    go_wp2_with fail
    go_ret
    exact ⟨rfl, rfl⟩
theorem sameA_nil (w : World) : Calls Tryz.prog 15 #[.slice none 0 0, .slice none 0 0] w fun e w' => e = .returned (.bool true) ∧ w' = w := by
  go_enter Tryz.func15, Tryz.ntmps15
  go_wp2_with fail
  go_loopw [5] (fun a5 wr => wr = w ∧ a5 = .int .i64 0) (fun _ _ => 0)
  case atStart => exact ⟨rfl, rfl⟩
  case round =>
    obtain ⟨rfl, rfl⟩ := hrel
    go_wp2_with fail
    go_ret
    exact ⟨rfl, rfl⟩
set_option maxRecDepth 100000 in
theorem sameN_zero (w : World) : Calls Tryz.prog 14 #[.agg #[.bool false, .slice none 0 0], .agg #[.bool false, .slice none 0 0]] w fun e w' => e = .returned (.bool true) ∧ Up w w' := by
  go_enter Tryz.func14, Tryz.ntmps14
  go_wp2_with (go_at_call 26; refine (sameL_nil _).mono ?_; rintro e w1 ⟨rfl, rfl⟩)
  go_ret
  exact ⟨rfl, (up_alloc w _).tr (up_alloc _ _)⟩
set_option maxHeartbeats 4000000 in
set_option maxRecDepth 100000 in
theorem same_leaf (k n : Int) (t : ByteArray) (w : World) : Calls Tryz.prog 9 #[.agg #[.int .i64 k, .int .i64 n, .bool false, .slice none 0 0, .string t, .slice none 0 0, .slice none 0 0], .agg #[.int .i64 k, .int .i64 n, .bool false, .slice none 0 0, .string t, .slice none 0 0, .slice none 0 0]] w fun e w' => e = .returned (.bool true) ∧ Up w w' := by
  have u1 := up_alloc w (.cells #[.int .i64 k, .int .i64 n, .bool false, .slice none 0 0, .string t, .slice none 0 0, .slice none 0 0] 32)
  have g1 := heap_alloc_new w (.cells #[.int .i64 k, .int .i64 n, .bool false, .slice none 0 0, .string t, .slice none 0 0, .slice none 0 0] 32)
  have z1 : (w.alloc (.cells #[.int .i64 k, .int .i64 n, .bool false, .slice none 0 0, .string t, .slice none 0 0, .slice none 0 0] 32)).heap.size = w.heap.size + 1 := World.size_alloc _ _
  obtain ⟨W1, hW1⟩ : ∃ W1, W1 = w.alloc (.cells #[.int .i64 k, .int .i64 n, .bool false, .slice none 0 0, .string t, .slice none 0 0, .slice none 0 0] 32) := ⟨_, rfl⟩
  rw [← hW1] at u1 g1 z1
  obtain ⟨W2, hW2⟩ : ∃ W2, W2 = W1.alloc (.cells #[.int .i64 k, .int .i64 n, .bool false, .slice none 0 0, .string t, .slice none 0 0, .slice none 0 0] 32) := ⟨_, rfl⟩
  have u2 : Up W1 W2 := by rw [hW2]; exact up_alloc _ _
  have g2 : W2.heap[w.heap.size + 1]? = some (.cells #[.int .i64 k, .int .i64 n, .bool false, .slice none 0 0, .string t, .slice none 0 0, .slice none 0 0] 32 (0, 0)) := by rw [hW2, ← z1]; exact heap_alloc_new _ _
  have g1' := u2.old g1
  obtain ⟨m0, m1, m2, m3, m4, m5, m6⟩ := cells7 g1'
  obtain ⟨n0, n1, n2, n3, n4, n5, n6⟩ := cells7 g2
  rw [hW1] at hW2
  have HW := hide hW2
  have HG := hide (And.intro g1' (And.intro g2 (u1.tr u2)))
  clear u1 g1 z1 hW1 u2 g2 g1' hW2
  clear W1
  go_enter Tryz.func9, Tryz.ntmps9
  go_wp2_with fail
  rw [← HW.out]
  go_wp2_with (first
    | (go_at_call 14; refine (sameN_zero _).mono ?_; rintro e w3 ⟨rfl, u3⟩; clear m0 m1 m2 m3 m4 m5 m6 n0 n1 n2 n3 n4 n5 n6; obtain ⟨m0, m1, m2, m3, m4, m5, m6⟩ := cells7 (u3.old HG.out.1); obtain ⟨n0, n1, n2, n3, n4, n5, n6⟩ := cells7 (u3.old HG.out.2.1); have HU3 := hide u3; clear u3)
    | (go_at_call 15; refine (sameA_nil _).mono ?_; rintro e w4 ⟨rfl, rfl⟩))
  go_ret
  exact ⟨rfl, HG.out.2.2.tr HU3.out⟩

end Go.Proofs.YtfplplobhmacoaaGreatDoor
