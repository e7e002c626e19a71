/-
  What is proved here: package read's within, given what it has in it.
-/
import Derived.Test.YteipogfolnlblaaDoorWXI
namespace Go.Proofs.YteipogfolnlblaaDoor
open Go Go.RowKit
def NestedOK (t : ByteArray) (m : Nat) : Prop := ∀ (w0 : World) (rb h x L k f : Nat) (w : World), RS w0 rb t (x + L) (100 - h) w → h + 1 ≤ 100 → 1 ≤ L → x + L ≤ t.size → (k = 3 ∨ k = 5) → t.size - (x + L) < m → 3 * (t.size - (x + L)) + 3 ≤ f →
  Calls Tryd.prog 34 #[.pointer (some ⟨rb, 0, none⟩), pc0 x ((x + L : Nat) : Int) k] w fun e w' => DPost w0 rb t (100 - h) w (nestM t.data.toList (rdM t.data.toList f h) (tkP x L k)) e w'

/-- A reader, one deeper. -/
theorem RS.deep {w0 : World} {rb : Nat} {t : ByteArray} {a d : Nat} {w : World} (h : RS w0 rb t a d w) (d' : Nat) : RS w0 rb t a d' (w.setCell ⟨rb, 2, none⟩ (.int .i64 (d' : Int))) ∧ Kr rb w (w.setCell ⟨rb, 2, none⟩ (.int .i64 (d' : Int))) := by
  have k : Kr rb w (w.setCell ⟨rb, 2, none⟩ (.int .i64 (d' : Int))) := (Kr.refl rb w).setCell _ _
  have b := heap_setCell_same w rb 2 _ _ (.int .i64 (d' : Int)) h.cs
  exact ⟨⟨k.up h.up h.ge, h.ge, by rw [b]; simp⟩, k⟩

theorem nest_bad (T : List UInt8) (f h x L k : Nat) (q : LP) (hx : x + L ≤ T.length) (e : nestM T (rdM T f h) (tkP x L k) = .inl q) : q.k = 11 := by
  have ih := rdM_ok T f h
  unfold nestM at e
  split at e
  · have := ih.2.2 (tkP x L k).x 6 [] (tkP x L k).a hx; rw [e] at this; exact this
  split at e
  · have := ih.2.2 (tkP x L k).x 7 [] (tkP x L k).a hx; rw [e] at this; exact this
  · unfold abM at e
    have hd := (nd_ok ih (a := (tkP x L k).a) hx).1
    split at e
    · rename_i q' hq
      rw [hq] at hd
      cases e
      exact hd
    · cases e

set_option maxHeartbeats 8000000 in
set_option maxRecDepth 100000 in
theorem within_deep (w0 : World) (rb : Nat) (t : ByteArray) (x y k a : Nat) (w : World) (hs : RS w0 rb t a 100 w) :
    Calls Tryd.prog 23 #[.pointer (some ⟨rb, 0, none⟩), pc0 x (y : Int) k] w fun e w' => DPost w0 rb t 100 w ((.inl (ftP x 16 a) : RD (1))) e w' := by
  have u1 := up_alloc w (.cells #[.int .i64 x, .int .i64 (y : Int), .int .i64 (k : Int), .int .i64 0, .int .i64 0, .bool false, .slice none 0 0, .string ⟨#[]⟩, .slice none 0 0, .slice none 0 0, .int .i64 0] 50)
  have g1 := heap_alloc_new w (.cells #[.int .i64 x, .int .i64 (y : Int), .int .i64 (k : Int), .int .i64 0, .int .i64 0, .bool false, .slice none 0 0, .string ⟨#[]⟩, .slice none 0 0, .slice none 0 0, .int .i64 0] 50)
  have z1 : (w.alloc (.cells #[.int .i64 x, .int .i64 (y : Int), .int .i64 (k : Int), .int .i64 0, .int .i64 0, .bool false, .slice none 0 0, .string ⟨#[]⟩, .slice none 0 0, .slice none 0 0, .int .i64 0] 50)).heap.size = w.heap.size + 1 := World.size_alloc _ _
  obtain ⟨W1, hW1⟩ : ∃ W1, W1 = w.alloc (.cells #[.int .i64 x, .int .i64 (y : Int), .int .i64 (k : Int), .int .i64 0, .int .i64 0, .bool false, .slice none 0 0, .string ⟨#[]⟩, .slice none 0 0, .slice none 0 0, .int .i64 0] 50) := ⟨_, rfl⟩
  rw [← hW1] at u1 g1 z1
  have u2 := up_alloc W1 zer11
  have z2 : (W1.alloc zer11).heap.size = w.heap.size + 2 := by rw [World.size_alloc, z1]
  have g2 : (W1.alloc zer11).heap[w.heap.size + 1]? = some zer11 := by rw [← z1]; exact heap_alloc_new W1 zer11
  have g1' := u2.old g1
  have uB := u1.tr u2
  have hlt : rb < w.heap.size := hs.lt
  have hsz : w0.heap.size ≤ w.heap.size := hs.up.size
  have hA := hs.more5 uB
  obtain ⟨m0, m1, m2, m3, m4, m5, m6, m7, m8, m9, m10⟩ := cells11 g1'
  have c2 : (W1.alloc zer11).cell? ⟨rb, 2, none⟩ = some (.int .i64 100) := cell_of_row _ rb 2 _ _ _ hA.cs
  have KS := fault_P w0 rb t a 100 x 16 _ hA
  generalize hP : ftP x 16 a = P at *
  have HS := hide KS
  have hP11 : P.k = 11 := by rw [← hP]; rfl
  have HP11 := hide hP11
  have HG := hide (And.intro g1' (And.intro g2 (And.intro uB (And.intro hlt (And.intro hsz z2)))))
  rw [hW1] at HS HG c2 m0 m1 m2 m3 m4 m5 m6 m7 m8 m9 m10
  unfold zer11 at HS HG c2 m0 m1 m2 m3 m4 m5 m6 m7 m8 m9 m10
  clear u1 g1 z1 u2 g2 g1' uB z2 hs hA hlt hsz KS hP hP11
  clear hW1 W1
  unfold pc0 pcV
  unfold pcP pcV at HS
  go_enter Tryd.func23, Tryd.ntmps23
  go_wp2_with (go_at_call 22; refine HS.out.mono ?_; rintro e w2 ⟨rfl, h2, k2⟩; clear m0 m1 m2 m3 m4 m5 m6 m7 m8 m9 m10 c2; have g2 := k2.old (by have := HG.out.2.2.2.1; omega) HG.out.2.1; obtain ⟨f0, f1, f2, f3, f4, f5, f6, f7, f8, f9, f10⟩ := frozen11 g2; obtain ⟨d0, d1, d2, d3, d4, d5, d6, d7, d8, d9, d10⟩ := cells11 g2; have HG2 := hide g2; have H2 := hide h2; have HK2 := hide k2; clear h2 k2 g2)
  obtain ⟨q1, q2⟩ := sto11 HG2.out (.int .i64 (P.x : Int)) (.int .i64 (P.y : Int)) (.int .i64 (P.k : Int)) (.int .i64 (P.dk : Int)) (.int .i64 (P.n : Int)) (.bool false) (.slice none 0 0) (.string P.s) (.slice none 0 0) (.slice none 0 0) (.int .i64 (P.er : Int))
  clear f0 f1 f2 f3 f4 f5 f6 f7 f8 f9 f10 d0 d1 d2 d3 d4 d5 d6 d7 d8 d9 d10
  generalize (((((((((((w2.setCell ⟨(w.heap.size + 1), 0, none⟩ (.int .i64 (P.x : Int))).setCell ⟨(w.heap.size + 1), 1, none⟩ (.int .i64 (P.y : Int))).setCell ⟨(w.heap.size + 1), 2, none⟩ (.int .i64 (P.k : Int))).setCell ⟨(w.heap.size + 1), 3, none⟩ (.int .i64 (P.dk : Int))).setCell ⟨(w.heap.size + 1), 4, none⟩ (.int .i64 (P.n : Int))).setCell ⟨(w.heap.size + 1), 5, none⟩ (.bool false)).setCell ⟨(w.heap.size + 1), 6, none⟩ (.slice none 0 0)).setCell ⟨(w.heap.size + 1), 7, none⟩ (.string P.s)).setCell ⟨(w.heap.size + 1), 8, none⟩ (.slice none 0 0)).setCell ⟨(w.heap.size + 1), 9, none⟩ (.slice none 0 0)).setCell ⟨(w.heap.size + 1), 10, none⟩ (.int .i64 (P.er : Int))) = W4 at *
  obtain ⟨d0, d1, d2, d3, d4, d5, d6, d7, d8, d9, d10⟩ := cells11 q1
  refine bodyPost_ret (by simp [results, Tryd.results23, go_sem, d0, d1, d2, d3, d4, d5, d6, d7, d8, d9, d10]; rfl) rfl ?_
  obtain ⟨-, -, uB, hlt, hsz, z2⟩ := HG.out
  exact ⟨Kr.join uB HK2.out q2 (by omega), by simp [pcP, pcV], HP11.out, ⟨q2.up H2.out.up (by omega), H2.out.ge, q2.old (by omega) H2.out.cs⟩⟩

set_option maxHeartbeats 8000000 in
set_option maxRecDepth 100000 in
theorem within_in (w0 : World) (rb : Nat) (t : ByteArray) (h x y k a d : Nat) (R : RD (h + 2)) (w : World) (hs : RS w0 rb t a d w) (hd : d < 100) (hrd0 : ∀ q, R = .inl q → q.k = 11)
    (hN : ∀ W, RS w0 rb t a (d + 1) W → Calls Tryd.prog 34 #[.pointer (some ⟨rb, 0, none⟩), pc0 x (y : Int) k] W fun e w' => DPost w0 rb t (d + 1) W R e w') :
    Calls Tryd.prog 23 #[.pointer (some ⟨rb, 0, none⟩), pc0 x (y : Int) k] w fun e w' => DPost w0 rb t d w R e w' := by
  have u1 := up_alloc w (.cells #[.int .i64 x, .int .i64 (y : Int), .int .i64 (k : Int), .int .i64 0, .int .i64 0, .bool false, .slice none 0 0, .string ⟨#[]⟩, .slice none 0 0, .slice none 0 0, .int .i64 0] 50)
  have g1 := heap_alloc_new w (.cells #[.int .i64 x, .int .i64 (y : Int), .int .i64 (k : Int), .int .i64 0, .int .i64 0, .bool false, .slice none 0 0, .string ⟨#[]⟩, .slice none 0 0, .slice none 0 0, .int .i64 0] 50)
  have z1 : (w.alloc (.cells #[.int .i64 x, .int .i64 (y : Int), .int .i64 (k : Int), .int .i64 0, .int .i64 0, .bool false, .slice none 0 0, .string ⟨#[]⟩, .slice none 0 0, .slice none 0 0, .int .i64 0] 50)).heap.size = w.heap.size + 1 := World.size_alloc _ _
  obtain ⟨W1, hW1⟩ : ∃ W1, W1 = w.alloc (.cells #[.int .i64 x, .int .i64 (y : Int), .int .i64 (k : Int), .int .i64 0, .int .i64 0, .bool false, .slice none 0 0, .string ⟨#[]⟩, .slice none 0 0, .slice none 0 0, .int .i64 0] 50) := ⟨_, rfl⟩
  rw [← hW1] at u1 g1 z1
  have u2 := up_alloc W1 zer11
  have z2 : (W1.alloc zer11).heap.size = w.heap.size + 2 := by rw [World.size_alloc, z1]
  have g2 : (W1.alloc zer11).heap[w.heap.size + 1]? = some zer11 := by rw [← z1]; exact heap_alloc_new W1 zer11
  have g1' := u2.old g1
  have uB := u1.tr u2
  have hlt : rb < w.heap.size := hs.lt
  have hsz : w0.heap.size ≤ w.heap.size := hs.up.size
  have hA := hs.more5 uB
  obtain ⟨m0, m1, m2, m3, m4, m5, m6, m7, m8, m9, m10⟩ := cells11 g1'
  have c2 : (W1.alloc zer11).cell? ⟨rb, 2, none⟩ = some (.int .i64 (d : Int)) := cell_of_row _ rb 2 _ _ _ hA.cs
  have zf : (W1.alloc zer11).frozen? ⟨rb, 2, none⟩ = false := frozen_of_row _ rb 2 _ _ hA.cs
  obtain ⟨hB, kB⟩ := hA.deep (d + 1)
  obtain ⟨W2, hW2⟩ : ∃ W2, W2 = W1.alloc zer11 := ⟨_, rfl⟩
  rw [← hW2] at u2 z2 g2 g1' uB hA m0 m1 m2 m3 m4 m5 m6 m7 m8 m9 m10 c2 zf hB kB
  have e1 : (((d + 1 : Nat)) : Int) = (d : Int) + 1 := by omega
  rw [e1] at hB kB
  have zS : (W2.setCell ⟨rb, 2, none⟩ (.int .i64 ((d : Int) + 1))).heap.size = W2.heap.size := by first | exact World.size_setCell _ _ _ | simp
  obtain ⟨W3, hW3⟩ : ∃ W3, W3 = W2.setCell ⟨rb, 2, none⟩ (.int .i64 ((d : Int) + 1)) := ⟨_, rfl⟩
  rw [← hW3] at hB kB zS
  have KN := hN W3 hB
  have g1s := kB.old (Nat.ne_of_gt hlt) g1'
  have g2s := kB.old (by omega) g2
  obtain ⟨n0, n1, n2, n3, n4, n5, n6, n7, n8, n9, n10⟩ := cells11 g1s
  have HG := hide (And.intro g2s (And.intro uB (And.intro hlt (And.intro hsz (And.intro z2 (And.intro zS kB))))))
  have dI : ¬ ((d : Int) = 100) := by omega
  have dI2 : (d : Int) < 100 := by omega
  rw [hW3, hW2, hW1] at KN HG n0 n1 n2 n3 n4 n5 n6 n7 n8 n9 n10
  rw [hW2, hW1] at c2 zf
  unfold zer11 at KN HG n0 n1 n2 n3 n4 n5 n6 n7 n8 n9 n10 c2 zf
  clear u1 g1 z1 u2 g2 g1' g1s g2s uB z2 zS kB hs hA hB hlt hsz hN m0 m1 m2 m3 m4 m5 m6 m7 m8 m9 m10
  clear hW3 W3
  clear hW2 W2
  clear hW1 W1
  revert KN hrd0
  match R with
  | .inl q =>
    intro hrd0 KN
    have hrd : q.k = 11 := hrd0 q rfl
    obtain ⟨qx, qy, qk, qdk, qn, qs, qer, qa⟩ := q
    have hq11 : qk = 11 := hrd
    subst hq11
    have HS := hide KN
    clear KN hrd0 hrd
    unfold pc0 pcV
    unfold DPost pcP pc0 pcV at HS
    go_enter Tryd.func23, Tryd.ntmps23
    go_wp2_with (go_at_call 34; refine HS.out.mono ?_; rintro e w4 ⟨k4, rfl, -, h4⟩; have u5 := up_alloc w4 (.cells #[.int .i64 (qx : Int), .int .i64 (qy : Int), .int .i64 11, .int .i64 (qdk : Int), .int .i64 (qn : Int), .bool false, .slice none 0 0, .string qs, .slice none 0 0, .slice none 0 0, .int .i64 (qer : Int)] 50); have h5 := h4.more5 u5; have c5 : (w4.alloc (.cells #[.int .i64 (qx : Int), .int .i64 (qy : Int), .int .i64 11, .int .i64 (qdk : Int), .int .i64 (qn : Int), .bool false, .slice none 0 0, .string qs, .slice none 0 0, .slice none 0 0, .int .i64 (qer : Int)] 50)).cell? ⟨rb, 2, none⟩ = some (.int .i64 ((d : Int) + 1)) := (cell_of_row _ rb 2 _ _ _ h5.cs).trans (by simp); have z5 : (w4.alloc (.cells #[.int .i64 (qx : Int), .int .i64 (qy : Int), .int .i64 11, .int .i64 (qdk : Int), .int .i64 (qn : Int), .bool false, .slice none 0 0, .string qs, .slice none 0 0, .slice none 0 0, .int .i64 (qer : Int)] 50)).frozen? ⟨rb, 2, none⟩ = false := frozen_of_row _ rb 2 _ _ h5.cs; obtain ⟨h6, k6⟩ := h5.deep d; have gp := k6.old (by have := h4.lt; omega) (heap_alloc_new w4 (.cells #[.int .i64 (qx : Int), .int .i64 (qy : Int), .int .i64 11, .int .i64 (qdk : Int), .int .i64 (qn : Int), .bool false, .slice none 0 0, .string qs, .slice none 0 0, .slice none 0 0, .int .i64 (qer : Int)] 50)); have g6 := k6.old (by have := HG.out.2.2.1; omega) (u5.old (k4.old (by have := HG.out.2.2.1; omega) HG.out.1)); obtain ⟨p0, p1, p2, p3, p4, p5, p6, p7, p8, p9, p10⟩ := cells11 gp; obtain ⟨f0, f1, f2, f3, f4, f5, f6, f7, f8, f9, f10⟩ := frozen11 g6; obtain ⟨d0, d1, d2, d3, d4, d5, d6, d7, d8, d9, d10⟩ := cells11 g6; have H6 := hide (And.intro g6 (And.intro h6 ((k4.tr (Kr.of_up u5)).tr k6))); clear k4 h4 u5 h5 h6 k6 gp g6 n0 n1 n2 n3 n4 n5 n6 n7 n8 n9 n10 c2 zf)
    obtain ⟨g6, h6, k6⟩ := H6.out
    obtain ⟨q1, q2⟩ := sto11 g6 (.int .i64 (qx : Int)) (.int .i64 (qy : Int)) (.int .i64 11) (.int .i64 (qdk : Int)) (.int .i64 (qn : Int)) (.bool false) (.slice none 0 0) (.string qs) (.slice none 0 0) (.slice none 0 0) (.int .i64 (qer : Int))
    clear f0 f1 f2 f3 f4 f5 f6 f7 f8 f9 f10 d0 d1 d2 d3 d4 d5 d6 d7 d8 d9 d10 p0 p1 p2 p3 p4 p5 p6 p7 p8 p9 p10
    generalize (w4.alloc (.cells #[.int .i64 (qx : Int), .int .i64 (qy : Int), .int .i64 11, .int .i64 (qdk : Int), .int .i64 (qn : Int), .bool false, .slice none 0 0, .string qs, .slice none 0 0, .slice none 0 0, .int .i64 (qer : Int)] 50)).setCell ⟨rb, 2, none⟩ (.int .i64 (d : Int)) = W7 at *
    generalize (((((((((((W7.setCell ⟨(w.heap.size + 1), 0, none⟩ (.int .i64 (qx : Int))).setCell ⟨(w.heap.size + 1), 1, none⟩ (.int .i64 (qy : Int))).setCell ⟨(w.heap.size + 1), 2, none⟩ (.int .i64 11)).setCell ⟨(w.heap.size + 1), 3, none⟩ (.int .i64 (qdk : Int))).setCell ⟨(w.heap.size + 1), 4, none⟩ (.int .i64 (qn : Int))).setCell ⟨(w.heap.size + 1), 5, none⟩ (.bool false)).setCell ⟨(w.heap.size + 1), 6, none⟩ (.slice none 0 0)).setCell ⟨(w.heap.size + 1), 7, none⟩ (.string qs)).setCell ⟨(w.heap.size + 1), 8, none⟩ (.slice none 0 0)).setCell ⟨(w.heap.size + 1), 9, none⟩ (.slice none 0 0)).setCell ⟨(w.heap.size + 1), 10, none⟩ (.int .i64 (qer : Int))) = W8 at *
    obtain ⟨d0, d1, d2, d3, d4, d5, d6, d7, d8, d9, d10⟩ := cells11 q1
    refine bodyPost_ret (by simp [results, Tryd.results23, go_sem, d0, d1, d2, d3, d4, d5, d6, d7, d8, d9, d10]; rfl) rfl ?_
    obtain ⟨g2s, uB, hlt, hsz, z2, zS, kB⟩ := HG.out
    exact ⟨Kr.join uB (kB.tr k6) q2 (by omega), by simp [pcP, pcV], rfl, ⟨q2.up h6.up (by omega), h6.ge, q2.old (by omega) h6.cs⟩⟩
  | .inr (x2, y2, tr, a2) =>
    intro hrd0 KN
    have HS := hide KN
    clear KN hrd0
    unfold pc0 pcV
    unfold DPost pc0 pcV at HS
    go_enter Tryd.func23, Tryd.ntmps23
    go_wp2_with (go_at_call 34; refine HS.out.mono ?_; rintro e w4 ⟨k4, ck, cn, cb, j1, j2, j3, cs, i1, i2, i3, r1, r2, r3, rfl, hq4, h4⟩; have u5 := up_alloc w4 (.cells #[.int .i64 (x2 : Int), .int .i64 (y2 : Int), .int .i64 10, .int .i64 ck, .int .i64 cn, .bool cb, .slice j1 j2 j3, .string cs, .slice i1 i2 i3, .slice r1 r2 r3, .int .i64 0] 50); have h5 := h4.more5 u5; have c5 : (w4.alloc (.cells #[.int .i64 (x2 : Int), .int .i64 (y2 : Int), .int .i64 10, .int .i64 ck, .int .i64 cn, .bool cb, .slice j1 j2 j3, .string cs, .slice i1 i2 i3, .slice r1 r2 r3, .int .i64 0] 50)).cell? ⟨rb, 2, none⟩ = some (.int .i64 ((d : Int) + 1)) := (cell_of_row _ rb 2 _ _ _ h5.cs).trans (by simp); have z5 : (w4.alloc (.cells #[.int .i64 (x2 : Int), .int .i64 (y2 : Int), .int .i64 10, .int .i64 ck, .int .i64 cn, .bool cb, .slice j1 j2 j3, .string cs, .slice i1 i2 i3, .slice r1 r2 r3, .int .i64 0] 50)).frozen? ⟨rb, 2, none⟩ = false := frozen_of_row _ rb 2 _ _ h5.cs; obtain ⟨h6, k6⟩ := h5.deep d; have gp := k6.old (by have := h4.lt; omega) (heap_alloc_new w4 (.cells #[.int .i64 (x2 : Int), .int .i64 (y2 : Int), .int .i64 10, .int .i64 ck, .int .i64 cn, .bool cb, .slice j1 j2 j3, .string cs, .slice i1 i2 i3, .slice r1 r2 r3, .int .i64 0] 50)); have g6 := k6.old (by have := HG.out.2.2.1; omega) (u5.old (k4.old (by have := HG.out.2.2.1; omega) HG.out.1)); obtain ⟨p0, p1, p2, p3, p4, p5, p6, p7, p8, p9, p10⟩ := cells11 gp; obtain ⟨f0, f1, f2, f3, f4, f5, f6, f7, f8, f9, f10⟩ := frozen11 g6; obtain ⟨d0, d1, d2, d3, d4, d5, d6, d7, d8, d9, d10⟩ := cells11 g6; have H6 := hide (And.intro g6 (And.intro h6 (And.intro ((k4.tr (Kr.of_up u5)).tr k6) (And.intro hq4 ((Kr.of_up u5).tr k6))))); clear hq4 k4 h4 u5 h5 h6 k6 gp g6 n0 n1 n2 n3 n4 n5 n6 n7 n8 n9 n10 c2 zf)
    obtain ⟨g6, h6, k6, hq4, k46⟩ := H6.out
    obtain ⟨q1, q2⟩ := sto11 g6 (.int .i64 (x2 : Int)) (.int .i64 (y2 : Int)) (.int .i64 10) (.int .i64 ck) (.int .i64 cn) (.bool cb) (.slice j1 j2 j3) (.string cs) (.slice i1 i2 i3) (.slice r1 r2 r3) (.int .i64 0)
    clear f0 f1 f2 f3 f4 f5 f6 f7 f8 f9 f10 d0 d1 d2 d3 d4 d5 d6 d7 d8 d9 d10 p0 p1 p2 p3 p4 p5 p6 p7 p8 p9 p10
    generalize (w4.alloc (.cells #[.int .i64 (x2 : Int), .int .i64 (y2 : Int), .int .i64 10, .int .i64 ck, .int .i64 cn, .bool cb, .slice j1 j2 j3, .string cs, .slice i1 i2 i3, .slice r1 r2 r3, .int .i64 0] 50)).setCell ⟨rb, 2, none⟩ (.int .i64 (d : Int)) = W7 at *
    generalize (((((((((((W7.setCell ⟨(w.heap.size + 1), 0, none⟩ (.int .i64 (x2 : Int))).setCell ⟨(w.heap.size + 1), 1, none⟩ (.int .i64 (y2 : Int))).setCell ⟨(w.heap.size + 1), 2, none⟩ (.int .i64 10)).setCell ⟨(w.heap.size + 1), 3, none⟩ (.int .i64 ck)).setCell ⟨(w.heap.size + 1), 4, none⟩ (.int .i64 cn)).setCell ⟨(w.heap.size + 1), 5, none⟩ (.bool cb)).setCell ⟨(w.heap.size + 1), 6, none⟩ (.slice j1 j2 j3)).setCell ⟨(w.heap.size + 1), 7, none⟩ (.string cs)).setCell ⟨(w.heap.size + 1), 8, none⟩ (.slice i1 i2 i3)).setCell ⟨(w.heap.size + 1), 9, none⟩ (.slice r1 r2 r3)).setCell ⟨(w.heap.size + 1), 10, none⟩ (.int .i64 0)) = W8 at *
    obtain ⟨d0, d1, d2, d3, d4, d5, d6, d7, d8, d9, d10⟩ := cells11 q1
    refine bodyPost_ret (by simp [results, Tryd.results23, go_sem, d0, d1, d2, d3, d4, d5, d6, d7, d8, d9, d10]; rfl) rfl ?_
    obtain ⟨g2s, uB, hlt, hsz, z2, zS, kB⟩ := HG.out
    refine ⟨Kr.join uB (kB.tr k6) q2 (by omega), ck, cn, cb, j1, j2, j3, cs, i1, i2, i3, r1, r2, r3, by simp [pcV], ?_, ⟨q2.up h6.up (by omega), h6.ge, q2.old (by omega) h6.cs⟩⟩
    exact DatQ.keep (fun g hg hq => (q2.2 g (Nat.lt_of_lt_of_le hg k46.1.size) (by omega)).trans (k46.2 g hg (by omega))) (fun g _ hq => by omega) hq4

theorem within_of (t : ByteArray) (m : Nat) (hN : NestedOK t m) : WithinOK t m := by
  intro w0 rb h x L k f w hs hh hL hx hk hm hf
  match h with
  | 0 => exact within_deep w0 rb t x (x + L) k (x + L) w hs
  | h + 1 =>
    have e : 100 - (h + 1) + 1 = 100 - h := by omega
    refine within_in w0 rb t h x (x + L) k (x + L) (100 - (h + 1)) _ w hs (by omega) (fun q hq => nest_bad t.data.toList f h x L k q (by rw [bytes_len]; exact hx) hq) (fun W hW => ?_)
    rw [e] at hW ⊢
    exact hN w0 rb h x L k f W hW hh hL hx hk hm hf

end Go.Proofs.YteipogfolnlblaaDoor
