/-
  What is proved here: package read's nested, given its rows and abbreviations.
-/
import Derived.Test.YteipogfolnlblaaDoorWXK
namespace Go.Proofs.YteipogfolnlblaaDoor
open Go Go.RowKit
def RowOK (t : ByteArray) (m : Nat) : Prop := ∀ (w0 : World) (rb h x y k a f : Nat) (kk : Int) (w : World), RS w0 rb t a (100 - h) w → h + 1 ≤ 100 → a ≤ t.size → t.size - a < m → 3 * (t.size - a) + 3 ≤ f → (kk = 6 ∨ kk = 7) →
  Calls Tryd.prog 51 #[.pointer (some ⟨rb, 0, none⟩), pc0 x (y : Int) k, .int .i64 kk] w fun e w' => DPost w0 rb t (100 - h) w ((rdM t.data.toList f h).rw x kk [] a) e w'

def AbbrOK (t : ByteArray) (m : Nat) : Prop := ∀ (w0 : World) (rb h x L k f : Nat) (w : World), RS w0 rb t (x + L) (100 - h) w → h + 1 ≤ 100 → 1 ≤ L → x + L ≤ t.size → t.size - (x + L) < m → 3 * (t.size - (x + L)) + 3 ≤ f →
  Calls Tryd.prog 52 #[.pointer (some ⟨rb, 0, none⟩), pc0 x ((x + L : Nat) : Int) k] w fun e w' => DPost w0 rb t (100 - h) w (abM t.data.toList (rdM t.data.toList f h) (tkP x L k)) e w'

set_option maxHeartbeats 4000000 in
set_option maxRecDepth 100000 in
theorem nested_list (w0 : World) (rb : Nat) (t : ByteArray) (h x y k a d : Nat) (R : RD (h + 2)) (w : World) (hs : RS w0 rb t a d w) (hxy : x ≤ y) (hy : y ≤ t.size) (hrd0 : ∀ q, R = .inl q → q.k = 11) (q1 : ((t.extract x y).toList == [40]) = true)
    (hC : ∀ W, RS w0 rb t a d W → Calls Tryd.prog 51 #[.pointer (some ⟨rb, 0, none⟩), pc0 x (y : Int) k, .int .i64 6] W fun e w' => DPost w0 rb t d W R e w') :
    Calls Tryd.prog 34 #[.pointer (some ⟨rb, 0, none⟩), pc0 x (y : Int) k] w fun e w' => DPost w0 rb t d w R e w' := by
  have u1 := up_alloc w (.cells #[.int .i64 x, .int .i64 (y : Int), .int .i64 (k : Int), .int .i64 0, .int .i64 0, .bool false, .slice none 0 0, .string ⟨#[]⟩, .slice none 0 0, .slice none 0 0, .int .i64 0] 50)
  have g1 := heap_alloc_new w (.cells #[.int .i64 x, .int .i64 (y : Int), .int .i64 (k : Int), .int .i64 0, .int .i64 0, .bool false, .slice none 0 0, .string ⟨#[]⟩, .slice none 0 0, .slice none 0 0, .int .i64 0] 50)
  have z1 : (w.alloc (.cells #[.int .i64 x, .int .i64 (y : Int), .int .i64 (k : Int), .int .i64 0, .int .i64 0, .bool false, .slice none 0 0, .string ⟨#[]⟩, .slice none 0 0, .slice none 0 0, .int .i64 0] 50)).heap.size = w.heap.size + 1 := World.size_alloc _ _
  obtain ⟨W1, hW1⟩ : ∃ W1, W1 = w.alloc (.cells #[.int .i64 x, .int .i64 (y : Int), .int .i64 (k : Int), .int .i64 0, .int .i64 0, .bool false, .slice none 0 0, .string ⟨#[]⟩, .slice none 0 0, .slice none 0 0, .int .i64 0] 50) := ⟨_, rfl⟩
  rw [← hW1] at u1 g1 z1
  have u2 := up_alloc W1 zer11
  have z2 : (W1.alloc zer11).heap.size = w.heap.size + 2 := by rw [World.size_alloc, z1]
  have g2 : (W1.alloc zer11).heap[w.heap.size + 1]? = some zer11 := by rw [← z1]; exact heap_alloc_new W1 zer11
  have g1' := u2.old g1
  have uB := u1.tr u2
  have hlt : rb < w.heap.size := hs.lt
  have hsz : w0.heap.size ≤ w.heap.size := hs.up.size
  have hA := hs.more5 uB
  obtain ⟨m0, m1, m2, m3, m4, m5, m6, m7, m8, m9, m10⟩ := cells11 g1'
  have KB := bytes_any w0 rb t a d x y k _ hA hxy hy
  have HB := hide KB
  have HC := hide hC
  have HG := hide (And.intro g1' (And.intro g2 (And.intro uB (And.intro hlt (And.intro hsz (And.intro z2 hA))))))
  rw [hW1] at HB HG m0 m1 m2 m3 m4 m5 m6 m7 m8 m9 m10
  unfold zer11 at HB HG m0 m1 m2 m3 m4 m5 m6 m7 m8 m9 m10
  clear u1 g1 z1 u2 g2 g1' uB z2 hs hA hlt hsz KB hC hxy hy
  clear hW1 W1
  generalize t.extract x y = r at *
  revert HC hrd0
  match R with
  | .inl q =>
    intro hrd0 HC
    have hrd : q.k = 11 := hrd0 q rfl
    obtain ⟨qx, qy, qk, qdk, qn, qs, qer, qa⟩ := q
    have hq11 : qk = 11 := hrd
    subst hq11
    clear hrd hrd0
    unfold DPost pcP pc0 pcV at HC
    unfold pc0 pcV at HB
    unfold pc0 pcV
    go_enter Tryd.func34, Tryd.ntmps34
    go_wp2_with (first
      | (go_at_call 38; refine HB.out.mono ?_; rintro e w3 ⟨rfl, u3⟩; clear m0 m1 m2 m3 m4 m5 m6 m7 m8 m9 m10; have b3 := u3.old HG.out.1; obtain ⟨m0, m1, m2, m3, m4, m5, m6, m7, m8, m9, m10⟩ := cells11 b3; have HU3 := hide u3; clear u3 b3)
      | (go_at_call 51; refine (HC.out _ (HG.out.2.2.2.2.2.2.more5 HU3.out)).mono ?_; rintro e w4 ⟨k4, rfl, -, h4⟩; clear m0 m1 m2 m3 m4 m5 m6 m7 m8 m9 m10; have g4 := (HU3.out.old HG.out.2.1); replace g4 := k4.old (by have := HG.out.2.2.2.1; omega) g4; obtain ⟨f0, f1, f2, f3, f4, f5, f6, f7, f8, f9, f10⟩ := frozen11 g4; obtain ⟨d0, d1, d2, d3, d4, d5, d6, d7, d8, d9, d10⟩ := cells11 g4; have H4 := hide (And.intro g4 (And.intro h4 k4)); clear g4 h4 k4))
    obtain ⟨g4, h4, k4⟩ := H4.out
    obtain ⟨Q1, Q2⟩ := sto11 g4 (.int .i64 (qx : Int)) (.int .i64 (qy : Int)) (.int .i64 11) (.int .i64 (qdk : Int)) (.int .i64 (qn : Int)) (.bool false) (.slice none 0 0) (.string qs) (.slice none 0 0) (.slice none 0 0) (.int .i64 (qer : Int))
    clear f0 f1 f2 f3 f4 f5 f6 f7 f8 f9 f10 d0 d1 d2 d3 d4 d5 d6 d7 d8 d9 d10
    generalize (((((((((((w4.setCell ⟨(w.heap.size + 1), 0, none⟩ (.int .i64 (qx : Int))).setCell ⟨(w.heap.size + 1), 1, none⟩ (.int .i64 (qy : Int))).setCell ⟨(w.heap.size + 1), 2, none⟩ (.int .i64 11)).setCell ⟨(w.heap.size + 1), 3, none⟩ (.int .i64 (qdk : Int))).setCell ⟨(w.heap.size + 1), 4, none⟩ (.int .i64 (qn : Int))).setCell ⟨(w.heap.size + 1), 5, none⟩ (.bool false)).setCell ⟨(w.heap.size + 1), 6, none⟩ (.slice none 0 0)).setCell ⟨(w.heap.size + 1), 7, none⟩ (.string qs)).setCell ⟨(w.heap.size + 1), 8, none⟩ (.slice none 0 0)).setCell ⟨(w.heap.size + 1), 9, none⟩ (.slice none 0 0)).setCell ⟨(w.heap.size + 1), 10, none⟩ (.int .i64 (qer : Int))) = W8 at *
    obtain ⟨d0, d1, d2, d3, d4, d5, d6, d7, d8, d9, d10⟩ := cells11 Q1
    refine bodyPost_ret (by simp [results, Tryd.results34, go_sem, d0, d1, d2, d3, d4, d5, d6, d7, d8, d9, d10]; rfl) rfl ?_
    obtain ⟨-, -, uB, hlt, hsz, z2, -⟩ := HG.out
    exact ⟨Kr.join uB ((Kr.of_up HU3.out).tr k4) Q2 (by omega), by simp [pcP, pcV], rfl, ⟨Q2.up h4.up (by omega), h4.ge, Q2.old (by omega) h4.cs⟩⟩
  | .inr (x2, y2, tr, a2) =>
    intro hrd0 HC
    clear hrd0
    unfold DPost pc0 pcV at HC
    unfold pc0 pcV at HB
    unfold pc0 pcV
    go_enter Tryd.func34, Tryd.ntmps34
    go_wp2_with (first
      | (go_at_call 38; refine HB.out.mono ?_; rintro e w3 ⟨rfl, u3⟩; clear m0 m1 m2 m3 m4 m5 m6 m7 m8 m9 m10; have b3 := u3.old HG.out.1; obtain ⟨m0, m1, m2, m3, m4, m5, m6, m7, m8, m9, m10⟩ := cells11 b3; have HU3 := hide u3; clear u3 b3)
      | (go_at_call 51; refine (HC.out _ (HG.out.2.2.2.2.2.2.more5 HU3.out)).mono ?_; rintro e w4 ⟨k4, ck, cn, cb, j1, j2, j3, cs, i1, i2, i3, r1, r2, r3, rfl, hq4, h4⟩; clear m0 m1 m2 m3 m4 m5 m6 m7 m8 m9 m10; have g4 := (HU3.out.old HG.out.2.1); replace g4 := k4.old (by have := HG.out.2.2.2.1; omega) g4; obtain ⟨f0, f1, f2, f3, f4, f5, f6, f7, f8, f9, f10⟩ := frozen11 g4; obtain ⟨d0, d1, d2, d3, d4, d5, d6, d7, d8, d9, d10⟩ := cells11 g4; have H4 := hide (And.intro g4 (And.intro h4 (And.intro k4 hq4))); clear g4 h4 k4 hq4))
    obtain ⟨g4, h4, k4, hq4⟩ := H4.out
    obtain ⟨Q1, Q2⟩ := sto11 g4 (.int .i64 (x2 : Int)) (.int .i64 (y2 : Int)) (.int .i64 10) (.int .i64 ck) (.int .i64 cn) (.bool cb) (.slice j1 j2 j3) (.string cs) (.slice i1 i2 i3) (.slice r1 r2 r3) (.int .i64 0)
    clear f0 f1 f2 f3 f4 f5 f6 f7 f8 f9 f10 d0 d1 d2 d3 d4 d5 d6 d7 d8 d9 d10
    generalize (((((((((((w4.setCell ⟨(w.heap.size + 1), 0, none⟩ (.int .i64 (x2 : Int))).setCell ⟨(w.heap.size + 1), 1, none⟩ (.int .i64 (y2 : Int))).setCell ⟨(w.heap.size + 1), 2, none⟩ (.int .i64 10)).setCell ⟨(w.heap.size + 1), 3, none⟩ (.int .i64 ck)).setCell ⟨(w.heap.size + 1), 4, none⟩ (.int .i64 cn)).setCell ⟨(w.heap.size + 1), 5, none⟩ (.bool cb)).setCell ⟨(w.heap.size + 1), 6, none⟩ (.slice j1 j2 j3)).setCell ⟨(w.heap.size + 1), 7, none⟩ (.string cs)).setCell ⟨(w.heap.size + 1), 8, none⟩ (.slice i1 i2 i3)).setCell ⟨(w.heap.size + 1), 9, none⟩ (.slice r1 r2 r3)).setCell ⟨(w.heap.size + 1), 10, none⟩ (.int .i64 0)) = W8 at *
    obtain ⟨d0, d1, d2, d3, d4, d5, d6, d7, d8, d9, d10⟩ := cells11 Q1
    refine bodyPost_ret (by simp [results, Tryd.results34, go_sem, d0, d1, d2, d3, d4, d5, d6, d7, d8, d9, d10]; rfl) rfl ?_
    obtain ⟨-, -, uB, hlt, hsz, z2, -⟩ := HG.out
    have z3 := HU3.out.size
    exact ⟨Kr.join uB ((Kr.of_up HU3.out).tr k4) Q2 (by omega), ck, cn, cb, j1, j2, j3, cs, i1, i2, i3, r1, r2, r3, by simp [pcV], DatQ.late hq4 Q2 (by omega) (by omega), ⟨Q2.up h4.up (by omega), h4.ge, Q2.old (by omega) h4.cs⟩⟩

set_option maxHeartbeats 4000000 in
set_option maxRecDepth 100000 in
theorem nested_vec (w0 : World) (rb : Nat) (t : ByteArray) (h x y k a d : Nat) (R : RD (h + 2)) (w : World) (hs : RS w0 rb t a d w) (hxy : x ≤ y) (hy : y ≤ t.size) (hrd0 : ∀ q, R = .inl q → q.k = 11) (q1 : ((t.extract x y).toList == [40]) = false) (q2 : ((t.extract x y).toList == [35, 40]) = true)
    (hC : ∀ W, RS w0 rb t a d W → Calls Tryd.prog 51 #[.pointer (some ⟨rb, 0, none⟩), pc0 x (y : Int) k, .int .i64 7] W fun e w' => DPost w0 rb t d W R e w') :
    Calls Tryd.prog 34 #[.pointer (some ⟨rb, 0, none⟩), pc0 x (y : Int) k] w fun e w' => DPost w0 rb t d w R e w' := by
  have u1 := up_alloc w (.cells #[.int .i64 x, .int .i64 (y : Int), .int .i64 (k : Int), .int .i64 0, .int .i64 0, .bool false, .slice none 0 0, .string ⟨#[]⟩, .slice none 0 0, .slice none 0 0, .int .i64 0] 50)
  have g1 := heap_alloc_new w (.cells #[.int .i64 x, .int .i64 (y : Int), .int .i64 (k : Int), .int .i64 0, .int .i64 0, .bool false, .slice none 0 0, .string ⟨#[]⟩, .slice none 0 0, .slice none 0 0, .int .i64 0] 50)
  have z1 : (w.alloc (.cells #[.int .i64 x, .int .i64 (y : Int), .int .i64 (k : Int), .int .i64 0, .int .i64 0, .bool false, .slice none 0 0, .string ⟨#[]⟩, .slice none 0 0, .slice none 0 0, .int .i64 0] 50)).heap.size = w.heap.size + 1 := World.size_alloc _ _
  obtain ⟨W1, hW1⟩ : ∃ W1, W1 = w.alloc (.cells #[.int .i64 x, .int .i64 (y : Int), .int .i64 (k : Int), .int .i64 0, .int .i64 0, .bool false, .slice none 0 0, .string ⟨#[]⟩, .slice none 0 0, .slice none 0 0, .int .i64 0] 50) := ⟨_, rfl⟩
  rw [← hW1] at u1 g1 z1
  have u2 := up_alloc W1 zer11
  have z2 : (W1.alloc zer11).heap.size = w.heap.size + 2 := by rw [World.size_alloc, z1]
  have g2 : (W1.alloc zer11).heap[w.heap.size + 1]? = some zer11 := by rw [← z1]; exact heap_alloc_new W1 zer11
  have g1' := u2.old g1
  have uB := u1.tr u2
  have hlt : rb < w.heap.size := hs.lt
  have hsz : w0.heap.size ≤ w.heap.size := hs.up.size
  have hA := hs.more5 uB
  obtain ⟨m0, m1, m2, m3, m4, m5, m6, m7, m8, m9, m10⟩ := cells11 g1'
  have KB := bytes_any w0 rb t a d x y k _ hA hxy hy
  have HB := hide KB
  have HC := hide hC
  have HG := hide (And.intro g1' (And.intro g2 (And.intro uB (And.intro hlt (And.intro hsz (And.intro z2 hA))))))
  rw [hW1] at HB HG m0 m1 m2 m3 m4 m5 m6 m7 m8 m9 m10
  unfold zer11 at HB HG m0 m1 m2 m3 m4 m5 m6 m7 m8 m9 m10
  clear u1 g1 z1 u2 g2 g1' uB z2 hs hA hlt hsz KB hC hxy hy
  clear hW1 W1
  generalize t.extract x y = r at *
  revert HC hrd0
  match R with
  | .inl q =>
    intro hrd0 HC
    have hrd : q.k = 11 := hrd0 q rfl
    obtain ⟨qx, qy, qk, qdk, qn, qs, qer, qa⟩ := q
    have hq11 : qk = 11 := hrd
    subst hq11
    clear hrd hrd0
    unfold DPost pcP pc0 pcV at HC
    unfold pc0 pcV at HB
    unfold pc0 pcV
    go_enter Tryd.func34, Tryd.ntmps34
    go_wp2_with (first
      | (go_at_call 38; refine HB.out.mono ?_; rintro e w3 ⟨rfl, u3⟩; clear m0 m1 m2 m3 m4 m5 m6 m7 m8 m9 m10; have b3 := u3.old HG.out.1; obtain ⟨m0, m1, m2, m3, m4, m5, m6, m7, m8, m9, m10⟩ := cells11 b3; have HU3 := hide u3; clear u3 b3)
      | (go_at_call 51; refine (HC.out _ (HG.out.2.2.2.2.2.2.more5 HU3.out)).mono ?_; rintro e w4 ⟨k4, rfl, -, h4⟩; clear m0 m1 m2 m3 m4 m5 m6 m7 m8 m9 m10; have g4 := (HU3.out.old HG.out.2.1); replace g4 := k4.old (by have := HG.out.2.2.2.1; omega) g4; obtain ⟨f0, f1, f2, f3, f4, f5, f6, f7, f8, f9, f10⟩ := frozen11 g4; obtain ⟨d0, d1, d2, d3, d4, d5, d6, d7, d8, d9, d10⟩ := cells11 g4; have H4 := hide (And.intro g4 (And.intro h4 k4)); clear g4 h4 k4))
    obtain ⟨g4, h4, k4⟩ := H4.out
    obtain ⟨Q1, Q2⟩ := sto11 g4 (.int .i64 (qx : Int)) (.int .i64 (qy : Int)) (.int .i64 11) (.int .i64 (qdk : Int)) (.int .i64 (qn : Int)) (.bool false) (.slice none 0 0) (.string qs) (.slice none 0 0) (.slice none 0 0) (.int .i64 (qer : Int))
    clear f0 f1 f2 f3 f4 f5 f6 f7 f8 f9 f10 d0 d1 d2 d3 d4 d5 d6 d7 d8 d9 d10
    generalize (((((((((((w4.setCell ⟨(w.heap.size + 1), 0, none⟩ (.int .i64 (qx : Int))).setCell ⟨(w.heap.size + 1), 1, none⟩ (.int .i64 (qy : Int))).setCell ⟨(w.heap.size + 1), 2, none⟩ (.int .i64 11)).setCell ⟨(w.heap.size + 1), 3, none⟩ (.int .i64 (qdk : Int))).setCell ⟨(w.heap.size + 1), 4, none⟩ (.int .i64 (qn : Int))).setCell ⟨(w.heap.size + 1), 5, none⟩ (.bool false)).setCell ⟨(w.heap.size + 1), 6, none⟩ (.slice none 0 0)).setCell ⟨(w.heap.size + 1), 7, none⟩ (.string qs)).setCell ⟨(w.heap.size + 1), 8, none⟩ (.slice none 0 0)).setCell ⟨(w.heap.size + 1), 9, none⟩ (.slice none 0 0)).setCell ⟨(w.heap.size + 1), 10, none⟩ (.int .i64 (qer : Int))) = W8 at *
    obtain ⟨d0, d1, d2, d3, d4, d5, d6, d7, d8, d9, d10⟩ := cells11 Q1
    refine bodyPost_ret (by simp [results, Tryd.results34, go_sem, d0, d1, d2, d3, d4, d5, d6, d7, d8, d9, d10]; rfl) rfl ?_
    obtain ⟨-, -, uB, hlt, hsz, z2, -⟩ := HG.out
    exact ⟨Kr.join uB ((Kr.of_up HU3.out).tr k4) Q2 (by omega), by simp [pcP, pcV], rfl, ⟨Q2.up h4.up (by omega), h4.ge, Q2.old (by omega) h4.cs⟩⟩
  | .inr (x2, y2, tr, a2) =>
    intro hrd0 HC
    clear hrd0
    unfold DPost pc0 pcV at HC
    unfold pc0 pcV at HB
    unfold pc0 pcV
    go_enter Tryd.func34, Tryd.ntmps34
    go_wp2_with (first
      | (go_at_call 38; refine HB.out.mono ?_; rintro e w3 ⟨rfl, u3⟩; clear m0 m1 m2 m3 m4 m5 m6 m7 m8 m9 m10; have b3 := u3.old HG.out.1; obtain ⟨m0, m1, m2, m3, m4, m5, m6, m7, m8, m9, m10⟩ := cells11 b3; have HU3 := hide u3; clear u3 b3)
      | (go_at_call 51; refine (HC.out _ (HG.out.2.2.2.2.2.2.more5 HU3.out)).mono ?_; rintro e w4 ⟨k4, ck, cn, cb, j1, j2, j3, cs, i1, i2, i3, r1, r2, r3, rfl, hq4, h4⟩; clear m0 m1 m2 m3 m4 m5 m6 m7 m8 m9 m10; have g4 := (HU3.out.old HG.out.2.1); replace g4 := k4.old (by have := HG.out.2.2.2.1; omega) g4; obtain ⟨f0, f1, f2, f3, f4, f5, f6, f7, f8, f9, f10⟩ := frozen11 g4; obtain ⟨d0, d1, d2, d3, d4, d5, d6, d7, d8, d9, d10⟩ := cells11 g4; have H4 := hide (And.intro g4 (And.intro h4 (And.intro k4 hq4))); clear g4 h4 k4 hq4))
    obtain ⟨g4, h4, k4, hq4⟩ := H4.out
    obtain ⟨Q1, Q2⟩ := sto11 g4 (.int .i64 (x2 : Int)) (.int .i64 (y2 : Int)) (.int .i64 10) (.int .i64 ck) (.int .i64 cn) (.bool cb) (.slice j1 j2 j3) (.string cs) (.slice i1 i2 i3) (.slice r1 r2 r3) (.int .i64 0)
    clear f0 f1 f2 f3 f4 f5 f6 f7 f8 f9 f10 d0 d1 d2 d3 d4 d5 d6 d7 d8 d9 d10
    generalize (((((((((((w4.setCell ⟨(w.heap.size + 1), 0, none⟩ (.int .i64 (x2 : Int))).setCell ⟨(w.heap.size + 1), 1, none⟩ (.int .i64 (y2 : Int))).setCell ⟨(w.heap.size + 1), 2, none⟩ (.int .i64 10)).setCell ⟨(w.heap.size + 1), 3, none⟩ (.int .i64 ck)).setCell ⟨(w.heap.size + 1), 4, none⟩ (.int .i64 cn)).setCell ⟨(w.heap.size + 1), 5, none⟩ (.bool cb)).setCell ⟨(w.heap.size + 1), 6, none⟩ (.slice j1 j2 j3)).setCell ⟨(w.heap.size + 1), 7, none⟩ (.string cs)).setCell ⟨(w.heap.size + 1), 8, none⟩ (.slice i1 i2 i3)).setCell ⟨(w.heap.size + 1), 9, none⟩ (.slice r1 r2 r3)).setCell ⟨(w.heap.size + 1), 10, none⟩ (.int .i64 0)) = W8 at *
    obtain ⟨d0, d1, d2, d3, d4, d5, d6, d7, d8, d9, d10⟩ := cells11 Q1
    refine bodyPost_ret (by simp [results, Tryd.results34, go_sem, d0, d1, d2, d3, d4, d5, d6, d7, d8, d9, d10]; rfl) rfl ?_
    obtain ⟨-, -, uB, hlt, hsz, z2, -⟩ := HG.out
    have z3 := HU3.out.size
    exact ⟨Kr.join uB ((Kr.of_up HU3.out).tr k4) Q2 (by omega), ck, cn, cb, j1, j2, j3, cs, i1, i2, i3, r1, r2, r3, by simp [pcV], DatQ.late hq4 Q2 (by omega) (by omega), ⟨Q2.up h4.up (by omega), h4.ge, Q2.old (by omega) h4.cs⟩⟩

set_option maxHeartbeats 4000000 in
set_option maxRecDepth 100000 in
theorem nested_abbr (w0 : World) (rb : Nat) (t : ByteArray) (h x y k a d : Nat) (R : RD (h + 2)) (w : World) (hs : RS w0 rb t a d w) (hxy : x ≤ y) (hy : y ≤ t.size) (hrd0 : ∀ q, R = .inl q → q.k = 11) (q1 : ((t.extract x y).toList == [40]) = false) (q2 : ((t.extract x y).toList == [35, 40]) = false)
    (hC : ∀ W, RS w0 rb t a d W → Calls Tryd.prog 52 #[.pointer (some ⟨rb, 0, none⟩), pc0 x (y : Int) k] W fun e w' => DPost w0 rb t d W R e w') :
    Calls Tryd.prog 34 #[.pointer (some ⟨rb, 0, none⟩), pc0 x (y : Int) k] w fun e w' => DPost w0 rb t d w R e w' := by
  have u1 := up_alloc w (.cells #[.int .i64 x, .int .i64 (y : Int), .int .i64 (k : Int), .int .i64 0, .int .i64 0, .bool false, .slice none 0 0, .string ⟨#[]⟩, .slice none 0 0, .slice none 0 0, .int .i64 0] 50)
  have g1 := heap_alloc_new w (.cells #[.int .i64 x, .int .i64 (y : Int), .int .i64 (k : Int), .int .i64 0, .int .i64 0, .bool false, .slice none 0 0, .string ⟨#[]⟩, .slice none 0 0, .slice none 0 0, .int .i64 0] 50)
  have z1 : (w.alloc (.cells #[.int .i64 x, .int .i64 (y : Int), .int .i64 (k : Int), .int .i64 0, .int .i64 0, .bool false, .slice none 0 0, .string ⟨#[]⟩, .slice none 0 0, .slice none 0 0, .int .i64 0] 50)).heap.size = w.heap.size + 1 := World.size_alloc _ _
  obtain ⟨W1, hW1⟩ : ∃ W1, W1 = w.alloc (.cells #[.int .i64 x, .int .i64 (y : Int), .int .i64 (k : Int), .int .i64 0, .int .i64 0, .bool false, .slice none 0 0, .string ⟨#[]⟩, .slice none 0 0, .slice none 0 0, .int .i64 0] 50) := ⟨_, rfl⟩
  rw [← hW1] at u1 g1 z1
  have u2 := up_alloc W1 zer11
  have z2 : (W1.alloc zer11).heap.size = w.heap.size + 2 := by rw [World.size_alloc, z1]
  have g2 : (W1.alloc zer11).heap[w.heap.size + 1]? = some zer11 := by rw [← z1]; exact heap_alloc_new W1 zer11
  have g1' := u2.old g1
  have uB := u1.tr u2
  have hlt : rb < w.heap.size := hs.lt
  have hsz : w0.heap.size ≤ w.heap.size := hs.up.size
  have hA := hs.more5 uB
  obtain ⟨m0, m1, m2, m3, m4, m5, m6, m7, m8, m9, m10⟩ := cells11 g1'
  have KB := bytes_any w0 rb t a d x y k _ hA hxy hy
  have HB := hide KB
  have HC := hide hC
  have HG := hide (And.intro g1' (And.intro g2 (And.intro uB (And.intro hlt (And.intro hsz (And.intro z2 hA))))))
  rw [hW1] at HB HG m0 m1 m2 m3 m4 m5 m6 m7 m8 m9 m10
  unfold zer11 at HB HG m0 m1 m2 m3 m4 m5 m6 m7 m8 m9 m10
  clear u1 g1 z1 u2 g2 g1' uB z2 hs hA hlt hsz KB hC hxy hy
  clear hW1 W1
  generalize t.extract x y = r at *
  revert HC hrd0
  match R with
  | .inl q =>
    intro hrd0 HC
    have hrd : q.k = 11 := hrd0 q rfl
    obtain ⟨qx, qy, qk, qdk, qn, qs, qer, qa⟩ := q
    have hq11 : qk = 11 := hrd
    subst hq11
    clear hrd hrd0
    unfold DPost pcP pc0 pcV at HC
    unfold pc0 pcV at HB
    unfold pc0 pcV
    go_enter Tryd.func34, Tryd.ntmps34
    go_wp2_with (first
      | (go_at_call 38; refine HB.out.mono ?_; rintro e w3 ⟨rfl, u3⟩; clear m0 m1 m2 m3 m4 m5 m6 m7 m8 m9 m10; have b3 := u3.old HG.out.1; obtain ⟨m0, m1, m2, m3, m4, m5, m6, m7, m8, m9, m10⟩ := cells11 b3; have HU3 := hide u3; clear u3 b3)
      | (go_at_call 52; refine (HC.out _ (HG.out.2.2.2.2.2.2.more5 HU3.out)).mono ?_; rintro e w4 ⟨k4, rfl, -, h4⟩; clear m0 m1 m2 m3 m4 m5 m6 m7 m8 m9 m10; have g4 := (HU3.out.old HG.out.2.1); replace g4 := k4.old (by have := HG.out.2.2.2.1; omega) g4; obtain ⟨f0, f1, f2, f3, f4, f5, f6, f7, f8, f9, f10⟩ := frozen11 g4; obtain ⟨d0, d1, d2, d3, d4, d5, d6, d7, d8, d9, d10⟩ := cells11 g4; have H4 := hide (And.intro g4 (And.intro h4 k4)); clear g4 h4 k4))
    obtain ⟨g4, h4, k4⟩ := H4.out
    obtain ⟨Q1, Q2⟩ := sto11 g4 (.int .i64 (qx : Int)) (.int .i64 (qy : Int)) (.int .i64 11) (.int .i64 (qdk : Int)) (.int .i64 (qn : Int)) (.bool false) (.slice none 0 0) (.string qs) (.slice none 0 0) (.slice none 0 0) (.int .i64 (qer : Int))
    clear f0 f1 f2 f3 f4 f5 f6 f7 f8 f9 f10 d0 d1 d2 d3 d4 d5 d6 d7 d8 d9 d10
    generalize (((((((((((w4.setCell ⟨(w.heap.size + 1), 0, none⟩ (.int .i64 (qx : Int))).setCell ⟨(w.heap.size + 1), 1, none⟩ (.int .i64 (qy : Int))).setCell ⟨(w.heap.size + 1), 2, none⟩ (.int .i64 11)).setCell ⟨(w.heap.size + 1), 3, none⟩ (.int .i64 (qdk : Int))).setCell ⟨(w.heap.size + 1), 4, none⟩ (.int .i64 (qn : Int))).setCell ⟨(w.heap.size + 1), 5, none⟩ (.bool false)).setCell ⟨(w.heap.size + 1), 6, none⟩ (.slice none 0 0)).setCell ⟨(w.heap.size + 1), 7, none⟩ (.string qs)).setCell ⟨(w.heap.size + 1), 8, none⟩ (.slice none 0 0)).setCell ⟨(w.heap.size + 1), 9, none⟩ (.slice none 0 0)).setCell ⟨(w.heap.size + 1), 10, none⟩ (.int .i64 (qer : Int))) = W8 at *
    obtain ⟨d0, d1, d2, d3, d4, d5, d6, d7, d8, d9, d10⟩ := cells11 Q1
    refine bodyPost_ret (by simp [results, Tryd.results34, go_sem, d0, d1, d2, d3, d4, d5, d6, d7, d8, d9, d10]; rfl) rfl ?_
    obtain ⟨-, -, uB, hlt, hsz, z2, -⟩ := HG.out
    exact ⟨Kr.join uB ((Kr.of_up HU3.out).tr k4) Q2 (by omega), by simp [pcP, pcV], rfl, ⟨Q2.up h4.up (by omega), h4.ge, Q2.old (by omega) h4.cs⟩⟩
  | .inr (x2, y2, tr, a2) =>
    intro hrd0 HC
    clear hrd0
    unfold DPost pc0 pcV at HC
    unfold pc0 pcV at HB
    unfold pc0 pcV
    go_enter Tryd.func34, Tryd.ntmps34
    go_wp2_with (first
      | (go_at_call 38; refine HB.out.mono ?_; rintro e w3 ⟨rfl, u3⟩; clear m0 m1 m2 m3 m4 m5 m6 m7 m8 m9 m10; have b3 := u3.old HG.out.1; obtain ⟨m0, m1, m2, m3, m4, m5, m6, m7, m8, m9, m10⟩ := cells11 b3; have HU3 := hide u3; clear u3 b3)
      | (go_at_call 52; refine (HC.out _ (HG.out.2.2.2.2.2.2.more5 HU3.out)).mono ?_; rintro e w4 ⟨k4, ck, cn, cb, j1, j2, j3, cs, i1, i2, i3, r1, r2, r3, rfl, hq4, h4⟩; clear m0 m1 m2 m3 m4 m5 m6 m7 m8 m9 m10; have g4 := (HU3.out.old HG.out.2.1); replace g4 := k4.old (by have := HG.out.2.2.2.1; omega) g4; obtain ⟨f0, f1, f2, f3, f4, f5, f6, f7, f8, f9, f10⟩ := frozen11 g4; obtain ⟨d0, d1, d2, d3, d4, d5, d6, d7, d8, d9, d10⟩ := cells11 g4; have H4 := hide (And.intro g4 (And.intro h4 (And.intro k4 hq4))); clear g4 h4 k4 hq4))
    obtain ⟨g4, h4, k4, hq4⟩ := H4.out
    obtain ⟨Q1, Q2⟩ := sto11 g4 (.int .i64 (x2 : Int)) (.int .i64 (y2 : Int)) (.int .i64 10) (.int .i64 ck) (.int .i64 cn) (.bool cb) (.slice j1 j2 j3) (.string cs) (.slice i1 i2 i3) (.slice r1 r2 r3) (.int .i64 0)
    clear f0 f1 f2 f3 f4 f5 f6 f7 f8 f9 f10 d0 d1 d2 d3 d4 d5 d6 d7 d8 d9 d10
    generalize (((((((((((w4.setCell ⟨(w.heap.size + 1), 0, none⟩ (.int .i64 (x2 : Int))).setCell ⟨(w.heap.size + 1), 1, none⟩ (.int .i64 (y2 : Int))).setCell ⟨(w.heap.size + 1), 2, none⟩ (.int .i64 10)).setCell ⟨(w.heap.size + 1), 3, none⟩ (.int .i64 ck)).setCell ⟨(w.heap.size + 1), 4, none⟩ (.int .i64 cn)).setCell ⟨(w.heap.size + 1), 5, none⟩ (.bool cb)).setCell ⟨(w.heap.size + 1), 6, none⟩ (.slice j1 j2 j3)).setCell ⟨(w.heap.size + 1), 7, none⟩ (.string cs)).setCell ⟨(w.heap.size + 1), 8, none⟩ (.slice i1 i2 i3)).setCell ⟨(w.heap.size + 1), 9, none⟩ (.slice r1 r2 r3)).setCell ⟨(w.heap.size + 1), 10, none⟩ (.int .i64 0)) = W8 at *
    obtain ⟨d0, d1, d2, d3, d4, d5, d6, d7, d8, d9, d10⟩ := cells11 Q1
    refine bodyPost_ret (by simp [results, Tryd.results34, go_sem, d0, d1, d2, d3, d4, d5, d6, d7, d8, d9, d10]; rfl) rfl ?_
    obtain ⟨-, -, uB, hlt, hsz, z2, -⟩ := HG.out
    have z3 := HU3.out.size
    exact ⟨Kr.join uB ((Kr.of_up HU3.out).tr k4) Q2 (by omega), ck, cn, cb, j1, j2, j3, cs, i1, i2, i3, r1, r2, r3, by simp [pcV], DatQ.late hq4 Q2 (by omega) (by omega), ⟨Q2.up h4.up (by omega), h4.ge, Q2.old (by omega) h4.cs⟩⟩

theorem nested_of (t : ByteArray) (m : Nat) (hR : RowOK t m) (hA : AbbrOK t m) : NestedOK t m := by
  intro w0 rb h x L k f w hs hh hL hx hk hm hf
  have hlist : (t.extract x (x + L)).toList = cutL t.data.toList x (x + L) := by rw [ByteArray.toList_eq, ext_cut]
  have hb := fun q (e : nestM t.data.toList (rdM t.data.toList f h) (tkP x L k) = .inl q) => nest_bad t.data.toList f h x L k q (by rw [bytes_len]; exact hx) e
  revert hb
  unfold nestM
  show (∀ q, (if cutL t.data.toList x (x + L) = [40] then _ else if cutL t.data.toList x (x + L) = [35, 40] then _ else _) = _ → _) → Calls _ _ _ _ (fun e w' => DPost w0 rb t (100 - h) w (if cutL t.data.toList x (x + L) = [40] then _ else if cutL t.data.toList x (x + L) = [35, 40] then _ else _) e w')
  by_cases c1 : cutL t.data.toList x (x + L) = [40]
  · rw [if_pos c1]
    intro hb
    exact nested_list w0 rb t h x (x + L) k (x + L) (100 - h) _ w hs (by omega) hx hb (by rw [hlist, c1]; rfl) (fun W hW => hR w0 rb h x (x + L) k (x + L) f 6 W hW hh hx hm hf (.inl rfl))
  rw [if_neg c1]
  by_cases c2 : cutL t.data.toList x (x + L) = [35, 40]
  · rw [if_pos c2]
    intro hb
    exact nested_vec w0 rb t h x (x + L) k (x + L) (100 - h) _ w hs (by omega) hx hb (by rw [hlist]; exact beq_eq_false_iff_ne.2 c1) (by rw [hlist, c2]; rfl) (fun W hW => hR w0 rb h x (x + L) k (x + L) f 7 W hW hh hx hm hf (.inr rfl))
  rw [if_neg c2]
  intro hb
  exact nested_abbr w0 rb t h x (x + L) k (x + L) (100 - h) _ w hs (by omega) hx hb (by rw [hlist]; exact beq_eq_false_iff_ne.2 c1) (by rw [hlist]; exact beq_eq_false_iff_ne.2 c2) (fun W hW => hA w0 rb h x L k f W hW hh hL hx hm hf)

end Go.Proofs.YteipogfolnlblaaDoor
