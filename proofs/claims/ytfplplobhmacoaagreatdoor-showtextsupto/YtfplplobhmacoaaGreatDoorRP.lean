/-
  What is proved here: package read's One, at a text as it is written and at a character.
-/
import Derived.Test.YtfplplobhmacoaaGreatDoorRO
namespace Go.Proofs.YtfplplobhmacoaaGreatDoor
open Go Go.RowKit

theorem sto7k {w1 : World} {g : Nat} {c0 c1 c2 c3 c4 c5 c6 : Value} {E : TypeId} (h : w1.heap[g]? = some (.cells #[c0, c1, c2, c3, c4, c5, c6] E (0, 0))) (v0 v1 v2 v3 v4 v5 v6 : Value) :
    (((((((w1.setCell ⟨g, 0, none⟩ v0).setCell ⟨g, 1, none⟩ v1).setCell ⟨g, 2, none⟩ v2).setCell ⟨g, 3, none⟩ v3).setCell ⟨g, 4, none⟩ v4).setCell ⟨g, 5, none⟩ v5).setCell ⟨g, 6, none⟩ v6).heap[g]? = some (.cells #[v0, v1, v2, v3, v4, v5, v6] E (0, 0)) ∧ Kr g w1 (((((((w1.setCell ⟨g, 0, none⟩ v0).setCell ⟨g, 1, none⟩ v1).setCell ⟨g, 2, none⟩ v2).setCell ⟨g, 3, none⟩ v3).setCell ⟨g, 4, none⟩ v4).setCell ⟨g, 5, none⟩ v5).setCell ⟨g, 6, none⟩ v6) := by
  have f0 := Kr.refl g w1
  have s0 : (#[c0, c1, c2, c3, c4, c5, c6] : Array Value).setIfInBounds 0 v0 = #[v0, c1, c2, c3, c4, c5, c6] := rfl
  have s1 : (#[v0, c1, c2, c3, c4, c5, c6] : Array Value).setIfInBounds 1 v1 = #[v0, v1, c2, c3, c4, c5, c6] := rfl
  have s2 : (#[v0, v1, c2, c3, c4, c5, c6] : Array Value).setIfInBounds 2 v2 = #[v0, v1, v2, c3, c4, c5, c6] := rfl
  have s3 : (#[v0, v1, v2, c3, c4, c5, c6] : Array Value).setIfInBounds 3 v3 = #[v0, v1, v2, v3, c4, c5, c6] := rfl
  have s4 : (#[v0, v1, v2, v3, c4, c5, c6] : Array Value).setIfInBounds 4 v4 = #[v0, v1, v2, v3, v4, c5, c6] := rfl
  have s5 : (#[v0, v1, v2, v3, v4, c5, c6] : Array Value).setIfInBounds 5 v5 = #[v0, v1, v2, v3, v4, v5, c6] := rfl
  have s6 : (#[v0, v1, v2, v3, v4, v5, c6] : Array Value).setIfInBounds 6 v6 = #[v0, v1, v2, v3, v4, v5, v6] := rfl
  have h1 := heap_setCell_same w1 g 0 _ E v0 h
  rw [s0] at h1
  have f1 := f0.setCell 0 v0
  generalize w1.setCell ⟨g, 0, none⟩ v0 = wa at *
  have h2 := heap_setCell_same wa g 1 _ E v1 h1
  rw [s1] at h2
  have f2 := f1.setCell 1 v1
  generalize wa.setCell ⟨g, 1, none⟩ v1 = wb at *
  have h3 := heap_setCell_same wb g 2 _ E v2 h2
  rw [s2] at h3
  have f3 := f2.setCell 2 v2
  generalize wb.setCell ⟨g, 2, none⟩ v2 = wc at *
  have h4 := heap_setCell_same wc g 3 _ E v3 h3
  rw [s3] at h4
  have f4 := f3.setCell 3 v3
  generalize wc.setCell ⟨g, 3, none⟩ v3 = wd at *
  have h5 := heap_setCell_same wd g 4 _ E v4 h4
  rw [s4] at h5
  have f5 := f4.setCell 4 v4
  generalize wd.setCell ⟨g, 4, none⟩ v4 = we at *
  have h6 := heap_setCell_same we g 5 _ E v5 h5
  rw [s5] at h6
  have f6 := f5.setCell 5 v5
  generalize we.setCell ⟨g, 5, none⟩ v5 = wf at *
  have h7 := heap_setCell_same wf g 6 _ E v6 h6
  rw [s6] at h7
  have f7 := f6.setCell 6 v6
  exact ⟨h7, f7⟩
theorem frozen7k {w1 : World} {g : Nat} {c0 c1 c2 c3 c4 c5 c6 : Value} {E : TypeId} (h : w1.heap[g]? = some (.cells #[c0, c1, c2, c3, c4, c5, c6] E (0, 0))) : w1.frozen? ⟨g, 0, none⟩ = false ∧ w1.frozen? ⟨g, 1, none⟩ = false ∧ w1.frozen? ⟨g, 2, none⟩ = false ∧ w1.frozen? ⟨g, 3, none⟩ = false ∧ w1.frozen? ⟨g, 4, none⟩ = false ∧ w1.frozen? ⟨g, 5, none⟩ = false ∧ w1.frozen? ⟨g, 6, none⟩ = false :=
  ⟨frozen_of_row w1 g 0 _ E h, frozen_of_row w1 g 1 _ E h, frozen_of_row w1 g 2 _ E h, frozen_of_row w1 g 3 _ E h, frozen_of_row w1 g 4 _ E h, frozen_of_row w1 g 5 _ E h, frozen_of_row w1 g 6 _ E h⟩

def zer7 : Obj := .cells #[.int .i64 0, .int .i64 0, .bool false, .slice none 0 0, .string ⟨#[]⟩, .slice none 0 0, .slice none 0 0] 32

set_option maxHeartbeats 4000000 in
set_option maxRecDepth 100000 in
theorem one_ok (t s : ByteArray) (a1 b1 k1 x y kk n : Int) (a2 a3 : Nat) (w : World) (ht : t.size ≤ 65536)
    (hn : ∀ W, RS w (w.heap.size + 1) t 0 0 W → Calls Tryz.prog 11 #[.pointer (some ⟨w.heap.size + 1, 0, none⟩)] W fun e w' => e = .returned (pc0 a1 b1 k1) ∧ RS w (w.heap.size + 1) t a2 0 w' ∧ Kr (w.heap.size + 1) W w')
    (hd : ∀ W, RS w (w.heap.size + 1) t a2 0 W → Calls Tryz.prog 12 #[.pointer (some ⟨w.heap.size + 1, 0, none⟩), pc0 a1 b1 k1] W fun e w' => e = .returned (pcV x y 10 (.int .i64 kk) (.int .i64 n) (.bool false) (.slice none 0 0) (.string s) (.slice none 0 0) (.slice none 0 0) 0) ∧ RS w (w.heap.size + 1) t a3 0 w' ∧ Kr (w.heap.size + 1) W w') :
    Calls Tryz.prog 8 #[.string t, .int .i64 0] w fun e w' => e = .returned (.tuple #[.agg #[.int .i64 kk, .int .i64 n, .bool false, .slice none 0 0, .string s, .slice none 0 0, .slice none 0 0], .int .i64 y, .int .i64 0]) ∧ Up w w' := by
  have u1 := up_alloc w zer7
  have g1 := heap_alloc_new w zer7
  have z1 : (w.alloc zer7).heap.size = w.heap.size + 1 := World.size_alloc _ _
  obtain ⟨W1, hW1⟩ : ∃ W1, W1 = w.alloc zer7 := ⟨_, rfl⟩
  rw [← hW1] at u1 g1 z1
  have u2 := up_alloc W1 (.cells #[.string t, .int .i64 0, .int .i64 0] 40)
  have g2 : (W1.alloc (.cells #[.string t, .int .i64 0, .int .i64 0] 40)).heap[w.heap.size + 1]? = some (.cells #[.string t, .int .i64 0, .int .i64 0] 40 (0, 0)) := by rw [← z1]; exact heap_alloc_new W1 _
  have g1' := u2.old g1
  have hA : RS w (w.heap.size + 1) t 0 0 (W1.alloc (.cells #[.string t, .int .i64 0, .int .i64 0] 40)) := ⟨u1.tr u2, Nat.le_succ _, g2⟩
  have KN := hn _ hA
  have HN := hide KN
  have HD := hide hd
  have HG := hide g1'
  rw [hW1] at HN HG
  unfold zer7 at HN HG
  unfold pc0 pcV at HN HD
  have hI : (t.size : Int) ≤ 65536 := by omega
  have hI2 : ¬ (65536 < t.size) := by omega
  have hI3 : (0 : Int) ≤ (t.size : Int) := by omega
  clear hn hd KN u1 g1 z1 u2 g2 g1' hA
  clear hW1 W1
  go_enter Tryz.func8, Tryz.ntmps8
  go_wp2_with (first
    | (go_at_call 11; refine HN.out.mono ?_; rintro e w3 ⟨rfl, h3, k3⟩; have H3 := hide h3; have b3 := hide (k3.old (Nat.ne_of_lt (Nat.lt_succ_self _)) HG.out); clear h3 k3)
    | (go_at_call 12; refine (HD.out _ H3.out).mono ?_; rintro e w4 ⟨rfl, h4, k4⟩; have b4 := k4.old (Nat.ne_of_lt (Nat.lt_succ_self _)) b3.out; have u5 := up_alloc w4 (.cells #[.int .i64 x, .int .i64 y, .int .i64 10, .int .i64 kk, .int .i64 n, .bool false, .slice none 0 0, .string s, .slice none 0 0, .slice none 0 0, .int .i64 0] 44); have g5 := u5.old b4; obtain ⟨f0, f1, f2, f3, f4, f5, f6⟩ := frozen7k g5; obtain ⟨d0, d1, d2, d3, d4, d5, d6⟩ := cells7 g5; have H5 := hide (And.intro g5 (And.intro u5 h4)); clear h4 k4 b4 u5 g5))
  have gp := heap_alloc_new w4 (.cells #[.int .i64 x, .int .i64 y, .int .i64 10, .int .i64 kk, .int .i64 n, .bool false, .slice none 0 0, .string s, .slice none 0 0, .slice none 0 0, .int .i64 0] 44)
  have hne : ¬ (w.heap.size = w4.heap.size) := by have := Nat.lt_of_lt_of_le (Nat.lt_succ_self w.heap.size) (Nat.le_of_lt H5.out.2.2.lt); omega
  have hne' : ¬ (w4.heap.size = w.heap.size) := fun e => hne e.symm
  generalize w4.alloc (.cells #[.int .i64 x, .int .i64 y, .int .i64 10, .int .i64 kk, .int .i64 n, .bool false, .slice none 0 0, .string s, .slice none 0 0, .slice none 0 0, .int .i64 0] 44) = W5 at *
  obtain ⟨m0, m1, m2, m3, m4, m5, m6, m7, m8, m9, m10⟩ := cells11 gp
  clear gp
  go_region
  go_wp2_with fail
  obtain ⟨g5, u5, h4⟩ := H5.out
  obtain ⟨q1, q2⟩ := sto7k g5 (.int .i64 kk) (.int .i64 n) (.bool false) (.slice none 0 0) (.string s) (.slice none 0 0) (.slice none 0 0)
  clear f0 f1 f2 f3 f4 f5 f6 d0 d1 d2 d3 d4 d5 d6 m0 m1 m2 m3 m4 m5 m6 m7 m8 m9 m10
  generalize (((((((W5.setCell ⟨w.heap.size, 0, none⟩ (.int .i64 kk)).setCell ⟨w.heap.size, 1, none⟩ (.int .i64 n)).setCell ⟨w.heap.size, 2, none⟩ (.bool false)).setCell ⟨w.heap.size, 3, none⟩ (.slice none 0 0)).setCell ⟨w.heap.size, 4, none⟩ (.string s)).setCell ⟨w.heap.size, 5, none⟩ (.slice none 0 0)).setCell ⟨w.heap.size, 6, none⟩ (.slice none 0 0)) = W6 at *
  obtain ⟨d0, d1, d2, d3, d4, d5, d6⟩ := cells7 q1
  refine bodyPost_ret (by simp [results, Tryz.results8, go_sem, d0, d1, d2, d3, d4, d5, d6]; rfl) rfl ?_
  exact ⟨rfl, (q2.up (h4.up.tr u5) (Nat.le_refl _)).tr (up_drew _)⟩

/-- A text as it is written is read as it. -/
theorem one_text (t : ByteArray) (l : List UInt8) (w : World) (ht : t.size ≤ 65536) (hr : t.data.toList = 34 :: (tsW l ++ [34])) :
    Calls Tryz.prog 8 #[.string t, .int .i64 0] w fun e w' => e = .returned (.tuple #[.agg #[.int .i64 4, .int .i64 0, .bool false, .slice none 0 0, .string ⟨l.toArray⟩, .slice none 0 0, .slice none 0 0], .int .i64 (t.size : Int), .int .i64 0]) ∧ Up w w' := by
  have hz : t.size = (tsW l).length + 2 := by rw [← bytes_len, hr]; simp
  have := one_ok t ⟨l.toArray⟩ 0 1 6 0 ((1 + (tsW l).length + 1 : Nat) : Int) 4 0 1 (1 + (tsW l).length + 1) w ht
    (fun W hW => next_one w _ t 1 0 0 0 1 6 W hW (by decide) (fun W' hW' => by simpa using piece_quote w _ t 0 0 (tsW l ++ [34]) W' hW' (by omega) (by rw [List.drop_zero]; exact hr)))
    (fun W hW => rdatum_quote w _ t 1 0 0 1 l [] W hW (by omega) (by rw [hr]; rfl))
  rw [show (1 + (tsW l).length + 1 : Nat) = t.size from by omega] at this
  exact this

/-- A character as it is written is read as it. -/
theorem one_char (t : ByteArray) (n : Nat) (w : World) (hn : n < 256) (hr : t.data.toList = 35 :: 92 :: chW (n : Int)) (hc : ∃ c l, chW (n : Int) = c :: l ∧ tokL l = l.length) :
    Calls Tryz.prog 8 #[.string t, .int .i64 0] w fun e w' => e = .returned (.tuple #[.agg #[.int .i64 3, .int .i64 n, .bool false, .slice none 0 0, .string ⟨#[]⟩, .slice none 0 0, .slice none 0 0], .int .i64 (t.size : Int), .int .i64 0]) ∧ Up w w' := by
  have hle := chW_le (n : Int)
  have hz : t.size ≤ 9 := by rw [← bytes_len, hr]; simp; omega
  have he : (t.extract 0 t.size).data.toList = 35 :: 92 :: chW (n : Int) := by rw [ext_list t 0 (Nat.zero_le _), List.drop_zero, hr]
  obtain ⟨c, l, e1, e2⟩ := hc
  exact one_ok t ⟨#[]⟩ 0 t.size 7 0 t.size 3 n t.size t.size w (by omega)
    (fun W hW => next_one w _ t t.size 0 0 0 t.size 7 W hW (by decide) (fun W' hW' => piece_char w _ t 0 0 c l W' hW' (by omega) (by rw [List.drop_zero, hr, e1]) e2))
    (fun W hW => rdatum_char w _ t t.size 0 0 t.size n W hW (Nat.zero_le _) (Nat.le_refl _) (by omega) hn he)

end Go.Proofs.YtfplplobhmacoaaGreatDoor
