/-
  What is proved here: package read's bytes and letter.
-/
import Derived.Test.YtfplplobhmacoaaGreatDoorRG
namespace Go.Proofs.YtfplplobhmacoaaGreatDoor
open Go Go.RowKit

set_option maxHeartbeats 2000000 in
set_option maxRecDepth 100000 in
theorem bytes_any (w0 : World) (rb : Nat) (t : ByteArray) (x d a b : Nat) (k : Int) (w : World) (h : RS w0 rb t x d w) (hab : a ≤ b) (hb : b ≤ t.size) :
    Calls Tryz.prog 36 #[.pointer (some ⟨rb, 0, none⟩), pc0 a b k] w fun e w' => e = .returned (.string (t.extract a b)) ∧ Up w w' := by
  have hA : (w.alloc (.cells #[.int .i64 a, .int .i64 b, .int .i64 k, .int .i64 0, .int .i64 0, .bool false, .slice none 0 0, .string ⟨#[]⟩, .slice none 0 0, .slice none 0 0, .int .i64 0] 44)).heap[rb]? = _ := (up_alloc w _).old h.cs
  have c0 := cell_of_row _ rb 0 _ _ _ hA
  have e0 : (#[.string t, .int .i64 x, .int .i64 d] : Array Value)[0]? = some (.string t) := rfl
  rw [e0] at c0
  have hbI : (b : Int) ≤ (t.size : Int) := by omega
  have habI : (a : Int) ≤ (b : Int) := by omega
  clear hA e0 h
  unfold pc0 pcV
  go_enter Tryz.func36, Tryz.ntmps36
  go_wp2_with fail
  go_region
  go_wp2
  go_ret
  exact ⟨rfl, (up_alloc w _).tr (up_drew _)⟩

set_option maxHeartbeats 2000000 in
set_option maxRecDepth 100000 in
theorem letter_ch (w0 : World) (rb : Nat) (t : ByteArray) (x d a b n : Nat) (k : Int) (w : World) (h : RS w0 rb t x d w) (hab : a ≤ b) (hb : b ≤ t.size) (_ht : t.size ≤ 100000000) (hn : n < 256) (he : (t.extract a b).data.toList = 35 :: 92 :: chW n) :
    Calls Tryz.prog 21 #[.pointer (some ⟨rb, 0, none⟩), pc0 a b k] w fun e w' => e = .returned (pcV a b 10 (.int .i64 3) (.int .i64 n) (.bool false) (.slice none 0 0) (.string ⟨#[]⟩) (.slice none 0 0) (.slice none 0 0) 0) ∧ Up w w' := by
  have u1 := up_alloc w (.cells #[.int .i64 a, .int .i64 b, .int .i64 k, .int .i64 0, .int .i64 0, .bool false, .slice none 0 0, .string ⟨#[]⟩, .slice none 0 0, .slice none 0 0, .int .i64 0] 44)
  have g1 := heap_alloc_new w (.cells #[.int .i64 a, .int .i64 b, .int .i64 k, .int .i64 0, .int .i64 0, .bool false, .slice none 0 0, .string ⟨#[]⟩, .slice none 0 0, .slice none 0 0, .int .i64 0] 44)
  have z1 : (w.alloc (.cells #[.int .i64 a, .int .i64 b, .int .i64 k, .int .i64 0, .int .i64 0, .bool false, .slice none 0 0, .string ⟨#[]⟩, .slice none 0 0, .slice none 0 0, .int .i64 0] 44)).heap.size = w.heap.size + 1 := World.size_alloc _ _
  obtain ⟨W1, hW1⟩ : ∃ W1, W1 = w.alloc (.cells #[.int .i64 a, .int .i64 b, .int .i64 k, .int .i64 0, .int .i64 0, .bool false, .slice none 0 0, .string ⟨#[]⟩, .slice none 0 0, .slice none 0 0, .int .i64 0] 44) := ⟨_, rfl⟩
  rw [← hW1] at u1 g1 z1
  have u2 := up_alloc W1 zer11
  have g2 : (W1.alloc zer11).heap[w.heap.size + 1]? = some zer11 := by rw [← z1]; exact heap_alloc_new W1 zer11
  have g1' := u2.old g1
  have h2 : RS w0 rb t x d (W1.alloc zer11) := ⟨h.up.tr (u1.tr u2), h.ge, (u1.tr u2).old h.cs⟩
  have KB := bytes_any w0 rb t x d a b k _ h2 hab hb
  have HB := hide KB
  have HG := hide (And.intro g1' (And.intro g2 (And.intro u1 u2)))
  have e2 : ((t.extract a b).extract 2 (t.extract a b).size) = ⟨(chW (n : Int)).toArray⟩ := by
    have h3 : 2 ≤ (t.extract a b).size := by rw [← bytes_len, he]; simp
    have h4 := ext_list (t.extract a b) 2 h3
    rw [he] at h4
    apply ByteArray.ext
    apply Array.ext'
    rw [h4]; rfl
  have h3 : 2 ≤ (t.extract a b).size := by rw [← bytes_len, he]; simp
  have h3I : (2 : Int) ≤ ((t.extract a b).size : Int) := by omega
  have KL := fun (W : World) => letterOf_ch n hn W
  rw [← e2] at KL
  have HL := hide KL
  have KM := fun (W : World) => made_any a b 3 n false ⟨#[]⟩ none none none 0 0 0 0 0 0 W
  have HM := hide KM
  rw [hW1] at HB HG
  unfold pc0 pcV at *
  unfold zer11 at HB HG
  clear KB KL KM h u1 g1 z1 u2 g2 g1' h2 he e2 hn
  clear hW1 W1
  generalize t.extract a b = r at *
  go_enter Tryz.func21, Tryz.ntmps21
  go_wp2_with (first
    | (go_at_call 36; refine HB.out.mono ?_; rintro e w3 ⟨rfl, u3⟩; have b3 := u3.old HG.out.1; obtain ⟨d0, d1, d2, d3, d4, d5, d6, d7, d8, d9, d10⟩ := cells11 b3; have HU3 := hide u3; clear u3 b3)
    | (go_at_call 35; refine (HL.out _).mono ?_; rintro e w4 ⟨rfl, rfl⟩)
    | (go_at_call 33; refine (HM.out _).mono ?_; rintro e w5 ⟨rfl, u5⟩; clear d0 d1 d2 d3 d4 d5 d6 d7 d8 d9 d10; have g5 := u5.old (HU3.out.old HG.out.2.1); obtain ⟨f0, f1, f2, f3, f4, f5, f6, f7, f8, f9, f10⟩ := frozen11 g5; obtain ⟨d0, d1, d2, d3, d4, d5, d6, d7, d8, d9, d10⟩ := cells11 g5; have HU5 := hide u5; have HG5 := hide g5; clear u5 g5))
  obtain ⟨q1, q2⟩ := sto11 HG5.out (.int .i64 a) (.int .i64 b) (.int .i64 10) (.int .i64 3) (.int .i64 n) (.bool false) (.slice none 0 0) (.string ⟨#[]⟩) (.slice none 0 0) (.slice none 0 0) (.int .i64 0)
  clear f0 f1 f2 f3 f4 f5 f6 f7 f8 f9 f10 d0 d1 d2 d3 d4 d5 d6 d7 d8 d9 d10
  generalize (((((((((((w5.setCell ⟨(w.heap.size + 1), 0, none⟩ (.int .i64 a)).setCell ⟨(w.heap.size + 1), 1, none⟩ (.int .i64 b)).setCell ⟨(w.heap.size + 1), 2, none⟩ (.int .i64 10)).setCell ⟨(w.heap.size + 1), 3, none⟩ (.int .i64 3)).setCell ⟨(w.heap.size + 1), 4, none⟩ (.int .i64 n)).setCell ⟨(w.heap.size + 1), 5, none⟩ (.bool false)).setCell ⟨(w.heap.size + 1), 6, none⟩ (.slice none 0 0)).setCell ⟨(w.heap.size + 1), 7, none⟩ (.string ⟨#[]⟩)).setCell ⟨(w.heap.size + 1), 8, none⟩ (.slice none 0 0)).setCell ⟨(w.heap.size + 1), 9, none⟩ (.slice none 0 0)).setCell ⟨(w.heap.size + 1), 10, none⟩ (.int .i64 0)) = W6 at *
  obtain ⟨d0, d1, d2, d3, d4, d5, d6, d7, d8, d9, d10⟩ := cells11 q1
  refine bodyPost_ret (by simp [results, Tryz.results21, go_sem, d0, d1, d2, d3, d4, d5, d6, d7, d8, d9, d10]; rfl) rfl ?_
  obtain ⟨-, -, u1, u2⟩ := HG.out
  exact ⟨rfl, q2.up (u1.tr (u2.tr (HU3.out.tr HU5.out))) (Nat.le_succ _)⟩

end Go.Proofs.YtfplplobhmacoaaGreatDoor
