/-
  What is proved here: package read's datum, given within.
-/
import Derived.Test.YteipogfolnlblaaDoorWXH
namespace Go.Proofs.YteipogfolnlblaaDoor
open Go Go.RowKit
set_option maxHeartbeats 4000000 in
set_option maxRecDepth 100000 in
theorem datum3 (w0 : World) (rb : Nat) (t : ByteArray) (a d h x L : Nat) (w : World) (hs : RS w0 rb t a d w) (_ht : t.size ≤ 100000000) (R : RD (h + 1)) (hw : ∀ W, RS w0 rb t a d W → Calls Tryd.prog 23 #[.pointer (some ⟨rb, 0, none⟩), pc0 x ((x + L : Nat) : Int) 3] W fun e w' => DPost w0 rb t d W R e w') :
    Calls Tryd.prog 13 #[.pointer (some ⟨rb, 0, none⟩), pc0 x ((x + L : Nat) : Int) 3] w fun e w' => DPost w0 rb t d w (R) e w' := by
  have u1 := up_alloc w (.cells #[.int .i64 x, .int .i64 ((x + L : Nat) : Int), .int .i64 3, .int .i64 0, .int .i64 0, .bool false, .slice none 0 0, .string ⟨#[]⟩, .slice none 0 0, .slice none 0 0, .int .i64 0] 50)
  have g1 := heap_alloc_new w (.cells #[.int .i64 x, .int .i64 ((x + L : Nat) : Int), .int .i64 3, .int .i64 0, .int .i64 0, .bool false, .slice none 0 0, .string ⟨#[]⟩, .slice none 0 0, .slice none 0 0, .int .i64 0] 50)
  have z1 : (w.alloc (.cells #[.int .i64 x, .int .i64 ((x + L : Nat) : Int), .int .i64 3, .int .i64 0, .int .i64 0, .bool false, .slice none 0 0, .string ⟨#[]⟩, .slice none 0 0, .slice none 0 0, .int .i64 0] 50)).heap.size = w.heap.size + 1 := World.size_alloc _ _
  obtain ⟨W1, hW1⟩ : ∃ W1, W1 = w.alloc (.cells #[.int .i64 x, .int .i64 ((x + L : Nat) : Int), .int .i64 3, .int .i64 0, .int .i64 0, .bool false, .slice none 0 0, .string ⟨#[]⟩, .slice none 0 0, .slice none 0 0, .int .i64 0] 50) := ⟨_, rfl⟩
  rw [← hW1] at u1 g1 z1
  have u2 := up_alloc W1 zer11
  have z2 : (W1.alloc zer11).heap.size = w.heap.size + 2 := by rw [World.size_alloc, z1]
  have g2 : (W1.alloc zer11).heap[w.heap.size + 1]? = some zer11 := by rw [← z1]; exact heap_alloc_new W1 zer11
  have g1' := u2.old g1
  have uB := u1.tr u2
  have hlt : rb < w.heap.size := hs.lt
  have hsz : w0.heap.size ≤ w.heap.size := hs.up.size
  have hA := hs.more5 uB
  obtain ⟨m0, m1, m2, m3, m4, m5, m6, m7, m8, m9, m10⟩ := cells11 g1'
  have KS := hw _ hA
  have HS := hide KS
  clear KS hw
  have HG := hide (And.intro g1' (And.intro g2 (And.intro uB (And.intro hlt (And.intro hsz z2)))))
  rw [hW1] at HS HG m0 m1 m2 m3 m4 m5 m6 m7 m8 m9 m10
  unfold zer11 at HS HG m0 m1 m2 m3 m4 m5 m6 m7 m8 m9 m10
  clear u1 g1 z1 u2 g2 g1' uB z2 hs hA hlt hsz
  clear hW1 W1
  revert HS
  match R with
  | .inl q =>
    intro HS
    unfold pc0 pcV
    unfold DPost pcP pc0 pcV at HS
    go_enter Tryd.func13, Tryd.ntmps13
    go_wp2_with (go_at_call 23; refine HS.out.mono ?_; rintro e w2 ⟨k2, rfl, h11, h2⟩; clear m0 m1 m2 m3 m4 m5 m6 m7 m8 m9 m10; have g2 := k2.old (by have := HG.out.2.2.2.1; omega) HG.out.2.1; obtain ⟨f0, f1, f2, f3, f4, f5, f6, f7, f8, f9, f10⟩ := frozen11 g2; obtain ⟨d0, d1, d2, d3, d4, d5, d6, d7, d8, d9, d10⟩ := cells11 g2; have HG2 := hide g2; have H2 := hide (And.intro h11 h2); have HK2 := hide k2; clear h2 k2 h11; clear g2)
    obtain ⟨q1, q2⟩ := sto11 HG2.out (.int .i64 (q.x : Int)) (.int .i64 (q.y : Int)) (.int .i64 (q.k : Int)) (.int .i64 (q.dk : Int)) (.int .i64 (q.n : Int)) (.bool false) (.slice none 0 0) (.string q.s) (.slice none 0 0) (.slice none 0 0) (.int .i64 (q.er : Int))
    clear f0 f1 f2 f3 f4 f5 f6 f7 f8 f9 f10 d0 d1 d2 d3 d4 d5 d6 d7 d8 d9 d10
    generalize (((((((((((w2.setCell ⟨(w.heap.size + 1), 0, none⟩ (.int .i64 (q.x : Int))).setCell ⟨(w.heap.size + 1), 1, none⟩ (.int .i64 (q.y : Int))).setCell ⟨(w.heap.size + 1), 2, none⟩ (.int .i64 (q.k : Int))).setCell ⟨(w.heap.size + 1), 3, none⟩ (.int .i64 (q.dk : Int))).setCell ⟨(w.heap.size + 1), 4, none⟩ (.int .i64 (q.n : Int))).setCell ⟨(w.heap.size + 1), 5, none⟩ (.bool false)).setCell ⟨(w.heap.size + 1), 6, none⟩ (.slice none 0 0)).setCell ⟨(w.heap.size + 1), 7, none⟩ (.string q.s)).setCell ⟨(w.heap.size + 1), 8, none⟩ (.slice none 0 0)).setCell ⟨(w.heap.size + 1), 9, none⟩ (.slice none 0 0)).setCell ⟨(w.heap.size + 1), 10, none⟩ (.int .i64 (q.er : Int))) = W4 at *
    obtain ⟨d0, d1, d2, d3, d4, d5, d6, d7, d8, d9, d10⟩ := cells11 q1
    refine bodyPost_ret (by simp [results, Tryd.results13, go_sem, d0, d1, d2, d3, d4, d5, d6, d7, d8, d9, d10]; rfl) rfl ?_
    obtain ⟨-, -, uB, hlt, hsz, z2⟩ := HG.out
    exact ⟨Kr.join uB HK2.out q2 (by omega), by simp [pcP, pcV], H2.out.1, ⟨q2.up H2.out.2.up (by omega), H2.out.2.ge, q2.old (by omega) H2.out.2.cs⟩⟩
  | .inr (x2, y2, tr, a2) =>
    intro HS
    unfold pc0 pcV
    unfold DPost pc0 pcV at HS
    go_enter Tryd.func13, Tryd.ntmps13
    go_wp2_with (go_at_call 23; refine HS.out.mono ?_; rintro e w2 ⟨k2, ck, cn, cb, j1, j2, j3, cs, i1, i2, i3, r1, r2, r3, rfl, hq2, h2⟩; clear m0 m1 m2 m3 m4 m5 m6 m7 m8 m9 m10; have g2 := k2.old (by have := HG.out.2.2.2.1; omega) HG.out.2.1; obtain ⟨f0, f1, f2, f3, f4, f5, f6, f7, f8, f9, f10⟩ := frozen11 g2; obtain ⟨d0, d1, d2, d3, d4, d5, d6, d7, d8, d9, d10⟩ := cells11 g2; have HG2 := hide g2; have H2 := hide (And.intro hq2 h2); have HK2 := hide k2; clear h2 k2 hq2; clear g2)
    obtain ⟨q1, q2⟩ := sto11 HG2.out (.int .i64 (x2 : Int)) (.int .i64 (y2 : Int)) (.int .i64 10) (.int .i64 ck) (.int .i64 cn) (.bool cb) (.slice j1 j2 j3) (.string cs) (.slice i1 i2 i3) (.slice r1 r2 r3) (.int .i64 0)
    clear f0 f1 f2 f3 f4 f5 f6 f7 f8 f9 f10 d0 d1 d2 d3 d4 d5 d6 d7 d8 d9 d10
    generalize (((((((((((w2.setCell ⟨(w.heap.size + 1), 0, none⟩ (.int .i64 (x2 : Int))).setCell ⟨(w.heap.size + 1), 1, none⟩ (.int .i64 (y2 : Int))).setCell ⟨(w.heap.size + 1), 2, none⟩ (.int .i64 10)).setCell ⟨(w.heap.size + 1), 3, none⟩ (.int .i64 ck)).setCell ⟨(w.heap.size + 1), 4, none⟩ (.int .i64 cn)).setCell ⟨(w.heap.size + 1), 5, none⟩ (.bool cb)).setCell ⟨(w.heap.size + 1), 6, none⟩ (.slice j1 j2 j3)).setCell ⟨(w.heap.size + 1), 7, none⟩ (.string cs)).setCell ⟨(w.heap.size + 1), 8, none⟩ (.slice i1 i2 i3)).setCell ⟨(w.heap.size + 1), 9, none⟩ (.slice r1 r2 r3)).setCell ⟨(w.heap.size + 1), 10, none⟩ (.int .i64 0)) = W4 at *
    obtain ⟨d0, d1, d2, d3, d4, d5, d6, d7, d8, d9, d10⟩ := cells11 q1
    refine bodyPost_ret (by simp [results, Tryd.results13, go_sem, d0, d1, d2, d3, d4, d5, d6, d7, d8, d9, d10]; rfl) rfl ?_
    obtain ⟨-, -, uB, hlt, hsz, z2⟩ := HG.out
    exact ⟨Kr.join uB HK2.out q2 (by omega), ck, cn, cb, j1, j2, j3, cs, i1, i2, i3, r1, r2, r3, by simp [pcV], DatQ.late H2.out.1 q2 (by have := z2; omega) (by have := z2; omega), ⟨q2.up H2.out.2.up (by omega), H2.out.2.ge, q2.old (by omega) H2.out.2.cs⟩⟩

set_option maxHeartbeats 4000000 in
set_option maxRecDepth 100000 in
theorem datum5 (w0 : World) (rb : Nat) (t : ByteArray) (a d h x L : Nat) (w : World) (hs : RS w0 rb t a d w) (_ht : t.size ≤ 100000000) (R : RD (h + 1)) (hw : ∀ W, RS w0 rb t a d W → Calls Tryd.prog 23 #[.pointer (some ⟨rb, 0, none⟩), pc0 x ((x + L : Nat) : Int) 5] W fun e w' => DPost w0 rb t d W R e w') :
    Calls Tryd.prog 13 #[.pointer (some ⟨rb, 0, none⟩), pc0 x ((x + L : Nat) : Int) 5] w fun e w' => DPost w0 rb t d w (R) e w' := by
  have u1 := up_alloc w (.cells #[.int .i64 x, .int .i64 ((x + L : Nat) : Int), .int .i64 5, .int .i64 0, .int .i64 0, .bool false, .slice none 0 0, .string ⟨#[]⟩, .slice none 0 0, .slice none 0 0, .int .i64 0] 50)
  have g1 := heap_alloc_new w (.cells #[.int .i64 x, .int .i64 ((x + L : Nat) : Int), .int .i64 5, .int .i64 0, .int .i64 0, .bool false, .slice none 0 0, .string ⟨#[]⟩, .slice none 0 0, .slice none 0 0, .int .i64 0] 50)
  have z1 : (w.alloc (.cells #[.int .i64 x, .int .i64 ((x + L : Nat) : Int), .int .i64 5, .int .i64 0, .int .i64 0, .bool false, .slice none 0 0, .string ⟨#[]⟩, .slice none 0 0, .slice none 0 0, .int .i64 0] 50)).heap.size = w.heap.size + 1 := World.size_alloc _ _
  obtain ⟨W1, hW1⟩ : ∃ W1, W1 = w.alloc (.cells #[.int .i64 x, .int .i64 ((x + L : Nat) : Int), .int .i64 5, .int .i64 0, .int .i64 0, .bool false, .slice none 0 0, .string ⟨#[]⟩, .slice none 0 0, .slice none 0 0, .int .i64 0] 50) := ⟨_, rfl⟩
  rw [← hW1] at u1 g1 z1
  have u2 := up_alloc W1 zer11
  have z2 : (W1.alloc zer11).heap.size = w.heap.size + 2 := by rw [World.size_alloc, z1]
  have g2 : (W1.alloc zer11).heap[w.heap.size + 1]? = some zer11 := by rw [← z1]; exact heap_alloc_new W1 zer11
  have g1' := u2.old g1
  have uB := u1.tr u2
  have hlt : rb < w.heap.size := hs.lt
  have hsz : w0.heap.size ≤ w.heap.size := hs.up.size
  have hA := hs.more5 uB
  obtain ⟨m0, m1, m2, m3, m4, m5, m6, m7, m8, m9, m10⟩ := cells11 g1'
  have KS := hw _ hA
  have HS := hide KS
  clear KS hw
  have HG := hide (And.intro g1' (And.intro g2 (And.intro uB (And.intro hlt (And.intro hsz z2)))))
  rw [hW1] at HS HG m0 m1 m2 m3 m4 m5 m6 m7 m8 m9 m10
  unfold zer11 at HS HG m0 m1 m2 m3 m4 m5 m6 m7 m8 m9 m10
  clear u1 g1 z1 u2 g2 g1' uB z2 hs hA hlt hsz
  clear hW1 W1
  revert HS
  match R with
  | .inl q =>
    intro HS
    unfold pc0 pcV
    unfold DPost pcP pc0 pcV at HS
    go_enter Tryd.func13, Tryd.ntmps13
    go_wp2_with (go_at_call 23; refine HS.out.mono ?_; rintro e w2 ⟨k2, rfl, h11, h2⟩; clear m0 m1 m2 m3 m4 m5 m6 m7 m8 m9 m10; have g2 := k2.old (by have := HG.out.2.2.2.1; omega) HG.out.2.1; obtain ⟨f0, f1, f2, f3, f4, f5, f6, f7, f8, f9, f10⟩ := frozen11 g2; obtain ⟨d0, d1, d2, d3, d4, d5, d6, d7, d8, d9, d10⟩ := cells11 g2; have HG2 := hide g2; have H2 := hide (And.intro h11 h2); have HK2 := hide k2; clear h2 k2 h11; clear g2)
    obtain ⟨q1, q2⟩ := sto11 HG2.out (.int .i64 (q.x : Int)) (.int .i64 (q.y : Int)) (.int .i64 (q.k : Int)) (.int .i64 (q.dk : Int)) (.int .i64 (q.n : Int)) (.bool false) (.slice none 0 0) (.string q.s) (.slice none 0 0) (.slice none 0 0) (.int .i64 (q.er : Int))
    clear f0 f1 f2 f3 f4 f5 f6 f7 f8 f9 f10 d0 d1 d2 d3 d4 d5 d6 d7 d8 d9 d10
    generalize (((((((((((w2.setCell ⟨(w.heap.size + 1), 0, none⟩ (.int .i64 (q.x : Int))).setCell ⟨(w.heap.size + 1), 1, none⟩ (.int .i64 (q.y : Int))).setCell ⟨(w.heap.size + 1), 2, none⟩ (.int .i64 (q.k : Int))).setCell ⟨(w.heap.size + 1), 3, none⟩ (.int .i64 (q.dk : Int))).setCell ⟨(w.heap.size + 1), 4, none⟩ (.int .i64 (q.n : Int))).setCell ⟨(w.heap.size + 1), 5, none⟩ (.bool false)).setCell ⟨(w.heap.size + 1), 6, none⟩ (.slice none 0 0)).setCell ⟨(w.heap.size + 1), 7, none⟩ (.string q.s)).setCell ⟨(w.heap.size + 1), 8, none⟩ (.slice none 0 0)).setCell ⟨(w.heap.size + 1), 9, none⟩ (.slice none 0 0)).setCell ⟨(w.heap.size + 1), 10, none⟩ (.int .i64 (q.er : Int))) = W4 at *
    obtain ⟨d0, d1, d2, d3, d4, d5, d6, d7, d8, d9, d10⟩ := cells11 q1
    refine bodyPost_ret (by simp [results, Tryd.results13, go_sem, d0, d1, d2, d3, d4, d5, d6, d7, d8, d9, d10]; rfl) rfl ?_
    obtain ⟨-, -, uB, hlt, hsz, z2⟩ := HG.out
    exact ⟨Kr.join uB HK2.out q2 (by omega), by simp [pcP, pcV], H2.out.1, ⟨q2.up H2.out.2.up (by omega), H2.out.2.ge, q2.old (by omega) H2.out.2.cs⟩⟩
  | .inr (x2, y2, tr, a2) =>
    intro HS
    unfold pc0 pcV
    unfold DPost pc0 pcV at HS
    go_enter Tryd.func13, Tryd.ntmps13
    go_wp2_with (go_at_call 23; refine HS.out.mono ?_; rintro e w2 ⟨k2, ck, cn, cb, j1, j2, j3, cs, i1, i2, i3, r1, r2, r3, rfl, hq2, h2⟩; clear m0 m1 m2 m3 m4 m5 m6 m7 m8 m9 m10; have g2 := k2.old (by have := HG.out.2.2.2.1; omega) HG.out.2.1; obtain ⟨f0, f1, f2, f3, f4, f5, f6, f7, f8, f9, f10⟩ := frozen11 g2; obtain ⟨d0, d1, d2, d3, d4, d5, d6, d7, d8, d9, d10⟩ := cells11 g2; have HG2 := hide g2; have H2 := hide (And.intro hq2 h2); have HK2 := hide k2; clear h2 k2 hq2; clear g2)
    obtain ⟨q1, q2⟩ := sto11 HG2.out (.int .i64 (x2 : Int)) (.int .i64 (y2 : Int)) (.int .i64 10) (.int .i64 ck) (.int .i64 cn) (.bool cb) (.slice j1 j2 j3) (.string cs) (.slice i1 i2 i3) (.slice r1 r2 r3) (.int .i64 0)
    clear f0 f1 f2 f3 f4 f5 f6 f7 f8 f9 f10 d0 d1 d2 d3 d4 d5 d6 d7 d8 d9 d10
    generalize (((((((((((w2.setCell ⟨(w.heap.size + 1), 0, none⟩ (.int .i64 (x2 : Int))).setCell ⟨(w.heap.size + 1), 1, none⟩ (.int .i64 (y2 : Int))).setCell ⟨(w.heap.size + 1), 2, none⟩ (.int .i64 10)).setCell ⟨(w.heap.size + 1), 3, none⟩ (.int .i64 ck)).setCell ⟨(w.heap.size + 1), 4, none⟩ (.int .i64 cn)).setCell ⟨(w.heap.size + 1), 5, none⟩ (.bool cb)).setCell ⟨(w.heap.size + 1), 6, none⟩ (.slice j1 j2 j3)).setCell ⟨(w.heap.size + 1), 7, none⟩ (.string cs)).setCell ⟨(w.heap.size + 1), 8, none⟩ (.slice i1 i2 i3)).setCell ⟨(w.heap.size + 1), 9, none⟩ (.slice r1 r2 r3)).setCell ⟨(w.heap.size + 1), 10, none⟩ (.int .i64 0)) = W4 at *
    obtain ⟨d0, d1, d2, d3, d4, d5, d6, d7, d8, d9, d10⟩ := cells11 q1
    refine bodyPost_ret (by simp [results, Tryd.results13, go_sem, d0, d1, d2, d3, d4, d5, d6, d7, d8, d9, d10]; rfl) rfl ?_
    obtain ⟨-, -, uB, hlt, hsz, z2⟩ := HG.out
    exact ⟨Kr.join uB HK2.out q2 (by omega), ck, cn, cb, j1, j2, j3, cs, i1, i2, i3, r1, r2, r3, by simp [pcV], DatQ.late H2.out.1 q2 (by have := z2; omega) (by have := z2; omega), ⟨q2.up H2.out.2.up (by omega), H2.out.2.ge, q2.old (by omega) H2.out.2.cs⟩⟩

set_option maxHeartbeats 4000000 in
set_option maxRecDepth 100000 in
theorem datum11 (w0 : World) (rb : Nat) (t : ByteArray) (d h x y dk n er a : Nat) (s : ByteArray) (w : World) (hs : RS w0 rb t a d w) :
    Calls Tryd.prog 13 #[.pointer (some ⟨rb, 0, none⟩), pcP ⟨x, y, 11, dk, n, s, er, a⟩] w fun e w' => DPost w0 rb t d w ((.inl ⟨x, y, 11, dk, n, s, er, a⟩ : RD (h + 1))) e w' := by
  have u1 := up_alloc w (.cells #[.int .i64 (x : Int), .int .i64 (y : Int), .int .i64 11, .int .i64 (dk : Int), .int .i64 (n : Int), .bool false, .slice none 0 0, .string s, .slice none 0 0, .slice none 0 0, .int .i64 (er : Int)] 50)
  have g1 := heap_alloc_new w (.cells #[.int .i64 (x : Int), .int .i64 (y : Int), .int .i64 11, .int .i64 (dk : Int), .int .i64 (n : Int), .bool false, .slice none 0 0, .string s, .slice none 0 0, .slice none 0 0, .int .i64 (er : Int)] 50)
  have z1 : (w.alloc (.cells #[.int .i64 (x : Int), .int .i64 (y : Int), .int .i64 11, .int .i64 (dk : Int), .int .i64 (n : Int), .bool false, .slice none 0 0, .string s, .slice none 0 0, .slice none 0 0, .int .i64 (er : Int)] 50)).heap.size = w.heap.size + 1 := World.size_alloc _ _
  obtain ⟨W1, hW1⟩ : ∃ W1, W1 = w.alloc (.cells #[.int .i64 (x : Int), .int .i64 (y : Int), .int .i64 11, .int .i64 (dk : Int), .int .i64 (n : Int), .bool false, .slice none 0 0, .string s, .slice none 0 0, .slice none 0 0, .int .i64 (er : Int)] 50) := ⟨_, rfl⟩
  rw [← hW1] at u1 g1 z1
  have u2 := up_alloc W1 zer11
  have z2 : (W1.alloc zer11).heap.size = w.heap.size + 2 := by rw [World.size_alloc, z1]
  have g2 : (W1.alloc zer11).heap[w.heap.size + 1]? = some zer11 := by rw [← z1]; exact heap_alloc_new W1 zer11
  have g1' := u2.old g1
  have uB := u1.tr u2
  have hlt : rb < w.heap.size := hs.lt
  have hsz : w0.heap.size ≤ w.heap.size := hs.up.size
  have hA := hs.more5 uB
  obtain ⟨m0, m1, m2, m3, m4, m5, m6, m7, m8, m9, m10⟩ := cells11 g1'
  have HS := hide hs
  clear u1 g1 u2 g2 g1' uB z2 z1 hs hA hlt hsz m0 m1 m2 m3 m4 m5 m6 m7 m8 m9 m10
  clear hW1 W1
  unfold pcP pcV
  go_enter Tryd.func13, Tryd.ntmps13
  go_wp2_with fail
  refine bodyPost_ret (by simp [results, Tryd.results13, go_sem]; rfl) rfl ?_
  exact ⟨Kr.of_up ((up_alloc w _).tr (up_alloc _ _)), by simp [pcP, pcV], rfl, HS.out.more5 ((up_alloc w _).tr (up_alloc _ _))⟩

theorem datum_of (t : ByteArray) (m : Nat) (ht : t.size ≤ 100000000) (hW : WithinOK t m) : DatOK t m := by
  intro w0 rb h p f w hs hh hp k1 k2 hf
  have hl : t.data.toList.length = t.size := bytes_len t
  obtain ⟨f, rfl⟩ : ∃ f', f = f' + 1 := ⟨f - 1, by omega⟩
  show Calls _ _ _ _ (fun e w' => DPost w0 rb t (100 - h) w (dtS t.data.toList (rdM t.data.toList f) h p) e w')
  unfold dtS
  rw [hl]
  by_cases k11 : p.k = 11
  · rw [if_neg (by omega), if_neg (by omega), if_neg (by omega), if_neg (by omega), if_neg (by omega), if_neg (by omega), if_neg (by omega)]
    obtain ⟨x, y, k, dk, n, s, er, a⟩ := p
    have k11 : k = 11 := k11
    subst k11
    exact datum11 w0 rb t (100 - h) h x y dk n er a s w hs
  rcases hp with hp | ⟨x, L, k, rfl, h1, h2, h3, h4, h5⟩
  · exact absurd hp k11
  have ek : (tkP x L k).k = k := rfl
  have ea : (tkP x L k).a = x + L := rfl
  rw [ek] at k1 k2
  have hs : RS w0 rb t (x + L) (100 - h) w := hs
  show Calls Tryd.prog 13 #[.pointer (some ⟨rb, 0, none⟩), pc0 x ((x + L : Nat) : Int) k] w _
  simp only [ek]
  have hk : k = 0 ∨ k = 3 ∨ k = 4 ∨ k = 5 ∨ k = 6 ∨ k = 7 ∨ k = 8 ∨ k = 9 := by omega
  have hf' : k ≠ 0 → t.size - (x + L) < m ∧ 3 * (t.size - (x + L)) + 3 ≤ f := fun e => by
    rcases hf with ⟨hn, -⟩ | ⟨g1, g2⟩
    · rcases hn with hn | hn
      · exact absurd hn e
      · exact absurd hn k11
    · rw [ea] at g1 g2; omega
  rcases hk with rfl | rfl | rfl | rfl | rfl | rfl | rfl | rfl
  · rw [if_pos rfl]
    exact datum0 w0 rb t (x + L) (100 - h) h x L w hs ht
  · rw [if_neg (by decide), if_neg (by decide), if_neg (by decide), if_pos (.inl rfl)]
    exact datum3 w0 rb t (x + L) (100 - h) h x L w hs ht _ (fun W hW' => hW w0 rb h x L 3 f W hW' hh (h4 (by decide)) h1 (.inl rfl) (hf' (by decide)).1 (hf' (by decide)).2)
  · rw [if_neg (by decide), if_pos rfl]
    exact datum4 w0 rb t (x + L) (100 - h) h x L w hs ht
  · rw [if_neg (by decide), if_neg (by decide), if_neg (by decide), if_pos (.inr rfl)]
    exact datum5 w0 rb t (x + L) (100 - h) h x L w hs ht _ (fun W hW' => hW w0 rb h x L 5 f W hW' hh (h4 (by decide)) h1 (.inr rfl) (hf' (by decide)).1 (hf' (by decide)).2)
  · rw [if_neg (by decide), if_neg (by decide), if_neg (by decide), if_neg (by decide), if_pos rfl]
    have := datum6 w0 rb t (x + L) (100 - h) h x L w hs ht h1
    rw [hl] at this
    exact this
  · rw [if_neg (by decide), if_neg (by decide), if_neg (by decide), if_neg (by decide), if_neg (by decide), if_pos rfl]
    exact datum7 w0 rb t (x + L) (100 - h) h x L w hs ht (h5 rfl) h1
  · rw [if_neg (by decide), if_neg (by decide), if_pos rfl]
    exact datum8 w0 rb t (x + L) (100 - h) h x L w hs ht
  · rw [if_neg (by decide), if_neg (by decide), if_neg (by decide), if_neg (by decide), if_neg (by decide), if_neg (by decide), if_pos rfl]
    exact datum9 w0 rb t (x + L) (100 - h) h x L w hs ht (h4 (by decide)) h1

end Go.Proofs.YteipogfolnlblaaDoor
