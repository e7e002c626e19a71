/-
  What is proved here: package read's datum, given what has data in it.
-/
import Derived.Test.YteipogfolnlblaaDoorWXG
namespace Go.Proofs.YteipogfolnlblaaDoor
open Go Go.RowKit
/-- At the end of the text, or where something is wrong. -/
def nowP (p : LP) : Prop := p.k = 0 ∨ p.k = 11

def NextOK (t : ByteArray) (m : Nat) : Prop := ∀ (w0 : World) (rb h a f : Nat) (w : World), RS w0 rb t a (100 - h) w → h ≤ 100 → a ≤ t.size → t.size - a < m → 3 * (t.size - a) + 2 ≤ f →
  Calls Tryd.prog 14 #[.pointer (some ⟨rb, 0, none⟩)] w fun e w' => e = .returned (pcP ((rdM t.data.toList f h).nx 0 a)) ∧ RS w0 rb t ((rdM t.data.toList f h).nx 0 a).a (100 - h) w' ∧ Kr rb w w'

def DatOK (t : ByteArray) (m : Nat) : Prop := ∀ (w0 : World) (rb h : Nat) (p : LP) (f : Nat) (w : World), RS w0 rb t p.a (100 - h) w → h ≤ 100 → PieceOK t.size p → p.k ≠ 1 → p.k ≠ 2 → ((nowP p ∧ 1 ≤ f) ∨ (t.size - p.a < m ∧ 3 * (t.size - p.a) + 4 ≤ f)) →
  Calls Tryd.prog 13 #[.pointer (some ⟨rb, 0, none⟩), pcP p] w fun e w' => DPost w0 rb t (100 - h) w ((rdM t.data.toList f h).dt p) e w'

def WithinOK (t : ByteArray) (m : Nat) : Prop := ∀ (w0 : World) (rb h x L k f : Nat) (w : World), RS w0 rb t (x + L) (100 - h) w → h ≤ 100 → 1 ≤ L → x + L ≤ t.size → (k = 3 ∨ k = 5) → t.size - (x + L) < m → 3 * (t.size - (x + L)) + 3 ≤ f →
  Calls Tryd.prog 23 #[.pointer (some ⟨rb, 0, none⟩), pc0 x ((x + L : Nat) : Int) k] w fun e w' => DPost w0 rb t (100 - h) w (inM t.data.toList (rdM t.data.toList f) h (tkP x L k)) e w'

/-- Data stand where nothing in them turns. -/
theorem DatQ.late {w2 W4 : World} {g lo hi : Nat} {h : Nat} {tr : Tr h} {cs : List Value} (hd : DatQ (fun k => hi ≤ k) w2 h tr cs) (q : Kr g w2 W4) (hg : g < hi) (hlo : lo ≤ hi) : DatQ (fun k => lo ≤ k) W4 h tr cs :=
  DatQ.keep (fun k hk hq => q.2 k hk (by omega)) (fun k _ hq => by omega) hd

set_option maxHeartbeats 4000000 in
set_option maxRecDepth 100000 in
theorem datum0 (w0 : World) (rb : Nat) (t : ByteArray) (a d h x L : Nat) (w : World) (hs : RS w0 rb t a d w) (ht : t.size ≤ 100000000)  :
    Calls Tryd.prog 13 #[.pointer (some ⟨rb, 0, none⟩), pc0 x ((x + L : Nat) : Int) 0] w fun e w' => DPost w0 rb t d w ((.inl (ftP t.size 10 a) : RD (h + 1))) e w' := by
  have u1 := up_alloc w (.cells #[.int .i64 x, .int .i64 ((x + L : Nat) : Int), .int .i64 0, .int .i64 0, .int .i64 0, .bool false, .slice none 0 0, .string ⟨#[]⟩, .slice none 0 0, .slice none 0 0, .int .i64 0] 50)
  have g1 := heap_alloc_new w (.cells #[.int .i64 x, .int .i64 ((x + L : Nat) : Int), .int .i64 0, .int .i64 0, .int .i64 0, .bool false, .slice none 0 0, .string ⟨#[]⟩, .slice none 0 0, .slice none 0 0, .int .i64 0] 50)
  have z1 : (w.alloc (.cells #[.int .i64 x, .int .i64 ((x + L : Nat) : Int), .int .i64 0, .int .i64 0, .int .i64 0, .bool false, .slice none 0 0, .string ⟨#[]⟩, .slice none 0 0, .slice none 0 0, .int .i64 0] 50)).heap.size = w.heap.size + 1 := World.size_alloc _ _
  obtain ⟨W1, hW1⟩ : ∃ W1, W1 = w.alloc (.cells #[.int .i64 x, .int .i64 ((x + L : Nat) : Int), .int .i64 0, .int .i64 0, .int .i64 0, .bool false, .slice none 0 0, .string ⟨#[]⟩, .slice none 0 0, .slice none 0 0, .int .i64 0] 50) := ⟨_, rfl⟩
  rw [← hW1] at u1 g1 z1
  have u2 := up_alloc W1 zer11
  have z2 : (W1.alloc zer11).heap.size = w.heap.size + 2 := by rw [World.size_alloc, z1]
  have g2 : (W1.alloc zer11).heap[w.heap.size + 1]? = some zer11 := by rw [← z1]; exact heap_alloc_new W1 zer11
  have g1' := u2.old g1
  have uB := u1.tr u2
  have hlt : rb < w.heap.size := hs.lt
  have hsz : w0.heap.size ≤ w.heap.size := hs.up.size
  have hA := hs.more5 uB
  obtain ⟨m0, m1, m2, m3, m4, m5, m6, m7, m8, m9, m10⟩ := cells11 g1'
  have KS := cut_P w0 rb t a d _ hA ht
  have hPf : (ftP t.size 10 a).k = 11 := rfl
  generalize ftP t.size 10 a = P at *
  have HS := hide KS
  have hP11 := hide hPf
  clear KS hPf
  have HG := hide (And.intro g1' (And.intro g2 (And.intro uB (And.intro hlt (And.intro hsz z2)))))
  rw [hW1] at HS HG m0 m1 m2 m3 m4 m5 m6 m7 m8 m9 m10
  unfold zer11 at HS HG m0 m1 m2 m3 m4 m5 m6 m7 m8 m9 m10
  clear u1 g1 z1 u2 g2 g1' uB z2 hs hA hlt hsz
  clear hW1 W1
  unfold pc0 pcV
  unfold pcP pcV at HS
  go_enter Tryd.func13, Tryd.ntmps13
  go_wp2_with (go_at_call 21; refine HS.out.mono ?_; rintro e w2 ⟨rfl, h2, k2⟩; clear m0 m1 m2 m3 m4 m5 m6 m7 m8 m9 m10; have g2 := k2.old (by have := HG.out.2.2.2.1; omega) HG.out.2.1; obtain ⟨f0, f1, f2, f3, f4, f5, f6, f7, f8, f9, f10⟩ := frozen11 g2; obtain ⟨d0, d1, d2, d3, d4, d5, d6, d7, d8, d9, d10⟩ := cells11 g2; have HG2 := hide g2; have H2 := hide h2; have HK2 := hide k2; clear h2 k2; clear g2)
  obtain ⟨q1, q2⟩ := sto11 HG2.out (.int .i64 (P.x : Int)) (.int .i64 (P.y : Int)) (.int .i64 (P.k : Int)) (.int .i64 (P.dk : Int)) (.int .i64 (P.n : Int)) (.bool false) (.slice none 0 0) (.string P.s) (.slice none 0 0) (.slice none 0 0) (.int .i64 (P.er : Int))
  clear f0 f1 f2 f3 f4 f5 f6 f7 f8 f9 f10 d0 d1 d2 d3 d4 d5 d6 d7 d8 d9 d10
  generalize (((((((((((w2.setCell ⟨(w.heap.size + 1), 0, none⟩ (.int .i64 (P.x : Int))).setCell ⟨(w.heap.size + 1), 1, none⟩ (.int .i64 (P.y : Int))).setCell ⟨(w.heap.size + 1), 2, none⟩ (.int .i64 (P.k : Int))).setCell ⟨(w.heap.size + 1), 3, none⟩ (.int .i64 (P.dk : Int))).setCell ⟨(w.heap.size + 1), 4, none⟩ (.int .i64 (P.n : Int))).setCell ⟨(w.heap.size + 1), 5, none⟩ (.bool false)).setCell ⟨(w.heap.size + 1), 6, none⟩ (.slice none 0 0)).setCell ⟨(w.heap.size + 1), 7, none⟩ (.string P.s)).setCell ⟨(w.heap.size + 1), 8, none⟩ (.slice none 0 0)).setCell ⟨(w.heap.size + 1), 9, none⟩ (.slice none 0 0)).setCell ⟨(w.heap.size + 1), 10, none⟩ (.int .i64 (P.er : Int))) = W4 at *
  obtain ⟨d0, d1, d2, d3, d4, d5, d6, d7, d8, d9, d10⟩ := cells11 q1
  refine bodyPost_ret (by simp [results, Tryd.results13, go_sem, d0, d1, d2, d3, d4, d5, d6, d7, d8, d9, d10]; rfl) rfl ?_
  obtain ⟨-, -, uB, hlt, hsz, z2⟩ := HG.out
  exact ⟨Kr.join uB HK2.out q2 (by omega), by simp [pcP, pcV], hP11.out, ⟨q2.up H2.out.up (by omega), H2.out.ge, q2.old (by omega) H2.out.cs⟩⟩

set_option maxHeartbeats 4000000 in
set_option maxRecDepth 100000 in
theorem datum4 (w0 : World) (rb : Nat) (t : ByteArray) (a d h x L : Nat) (w : World) (hs : RS w0 rb t a d w) (_ht : t.size ≤ 100000000)  :
    Calls Tryd.prog 13 #[.pointer (some ⟨rb, 0, none⟩), pc0 x ((x + L : Nat) : Int) 4] w fun e w' => DPost w0 rb t d w ((.inl (ftP x 11 a) : RD (h + 1))) e w' := by
  have u1 := up_alloc w (.cells #[.int .i64 x, .int .i64 ((x + L : Nat) : Int), .int .i64 4, .int .i64 0, .int .i64 0, .bool false, .slice none 0 0, .string ⟨#[]⟩, .slice none 0 0, .slice none 0 0, .int .i64 0] 50)
  have g1 := heap_alloc_new w (.cells #[.int .i64 x, .int .i64 ((x + L : Nat) : Int), .int .i64 4, .int .i64 0, .int .i64 0, .bool false, .slice none 0 0, .string ⟨#[]⟩, .slice none 0 0, .slice none 0 0, .int .i64 0] 50)
  have z1 : (w.alloc (.cells #[.int .i64 x, .int .i64 ((x + L : Nat) : Int), .int .i64 4, .int .i64 0, .int .i64 0, .bool false, .slice none 0 0, .string ⟨#[]⟩, .slice none 0 0, .slice none 0 0, .int .i64 0] 50)).heap.size = w.heap.size + 1 := World.size_alloc _ _
  obtain ⟨W1, hW1⟩ : ∃ W1, W1 = w.alloc (.cells #[.int .i64 x, .int .i64 ((x + L : Nat) : Int), .int .i64 4, .int .i64 0, .int .i64 0, .bool false, .slice none 0 0, .string ⟨#[]⟩, .slice none 0 0, .slice none 0 0, .int .i64 0] 50) := ⟨_, rfl⟩
  rw [← hW1] at u1 g1 z1
  have u2 := up_alloc W1 zer11
  have z2 : (W1.alloc zer11).heap.size = w.heap.size + 2 := by rw [World.size_alloc, z1]
  have g2 : (W1.alloc zer11).heap[w.heap.size + 1]? = some zer11 := by rw [← z1]; exact heap_alloc_new W1 zer11
  have g1' := u2.old g1
  have uB := u1.tr u2
  have hlt : rb < w.heap.size := hs.lt
  have hsz : w0.heap.size ≤ w.heap.size := hs.up.size
  have hA := hs.more5 uB
  obtain ⟨m0, m1, m2, m3, m4, m5, m6, m7, m8, m9, m10⟩ := cells11 g1'
  have KS := fault_P w0 rb t a d x 11 _ hA
  have hPf : (ftP x 11 a).k = 11 := rfl
  generalize ftP x 11 a = P at *
  have HS := hide KS
  have hP11 := hide hPf
  clear KS hPf
  have HG := hide (And.intro g1' (And.intro g2 (And.intro uB (And.intro hlt (And.intro hsz z2)))))
  rw [hW1] at HS HG m0 m1 m2 m3 m4 m5 m6 m7 m8 m9 m10
  unfold zer11 at HS HG m0 m1 m2 m3 m4 m5 m6 m7 m8 m9 m10
  clear u1 g1 z1 u2 g2 g1' uB z2 hs hA hlt hsz
  clear hW1 W1
  unfold pc0 pcV
  unfold pcP pcV at HS
  go_enter Tryd.func13, Tryd.ntmps13
  go_wp2_with (go_at_call 22; refine HS.out.mono ?_; rintro e w2 ⟨rfl, h2, k2⟩; clear m0 m1 m2 m3 m4 m5 m6 m7 m8 m9 m10; have g2 := k2.old (by have := HG.out.2.2.2.1; omega) HG.out.2.1; obtain ⟨f0, f1, f2, f3, f4, f5, f6, f7, f8, f9, f10⟩ := frozen11 g2; obtain ⟨d0, d1, d2, d3, d4, d5, d6, d7, d8, d9, d10⟩ := cells11 g2; have HG2 := hide g2; have H2 := hide h2; have HK2 := hide k2; clear h2 k2; clear g2)
  obtain ⟨q1, q2⟩ := sto11 HG2.out (.int .i64 (P.x : Int)) (.int .i64 (P.y : Int)) (.int .i64 (P.k : Int)) (.int .i64 (P.dk : Int)) (.int .i64 (P.n : Int)) (.bool false) (.slice none 0 0) (.string P.s) (.slice none 0 0) (.slice none 0 0) (.int .i64 (P.er : Int))
  clear f0 f1 f2 f3 f4 f5 f6 f7 f8 f9 f10 d0 d1 d2 d3 d4 d5 d6 d7 d8 d9 d10
  generalize (((((((((((w2.setCell ⟨(w.heap.size + 1), 0, none⟩ (.int .i64 (P.x : Int))).setCell ⟨(w.heap.size + 1), 1, none⟩ (.int .i64 (P.y : Int))).setCell ⟨(w.heap.size + 1), 2, none⟩ (.int .i64 (P.k : Int))).setCell ⟨(w.heap.size + 1), 3, none⟩ (.int .i64 (P.dk : Int))).setCell ⟨(w.heap.size + 1), 4, none⟩ (.int .i64 (P.n : Int))).setCell ⟨(w.heap.size + 1), 5, none⟩ (.bool false)).setCell ⟨(w.heap.size + 1), 6, none⟩ (.slice none 0 0)).setCell ⟨(w.heap.size + 1), 7, none⟩ (.string P.s)).setCell ⟨(w.heap.size + 1), 8, none⟩ (.slice none 0 0)).setCell ⟨(w.heap.size + 1), 9, none⟩ (.slice none 0 0)).setCell ⟨(w.heap.size + 1), 10, none⟩ (.int .i64 (P.er : Int))) = W4 at *
  obtain ⟨d0, d1, d2, d3, d4, d5, d6, d7, d8, d9, d10⟩ := cells11 q1
  refine bodyPost_ret (by simp [results, Tryd.results13, go_sem, d0, d1, d2, d3, d4, d5, d6, d7, d8, d9, d10]; rfl) rfl ?_
  obtain ⟨-, -, uB, hlt, hsz, z2⟩ := HG.out
  exact ⟨Kr.join uB HK2.out q2 (by omega), by simp [pcP, pcV], hP11.out, ⟨q2.up H2.out.up (by omega), H2.out.ge, q2.old (by omega) H2.out.cs⟩⟩

set_option maxHeartbeats 4000000 in
set_option maxRecDepth 100000 in
theorem datum8 (w0 : World) (rb : Nat) (t : ByteArray) (a d h x L : Nat) (w : World) (hs : RS w0 rb t a d w) (_ht : t.size ≤ 100000000)  :
    Calls Tryd.prog 13 #[.pointer (some ⟨rb, 0, none⟩), pc0 x ((x + L : Nat) : Int) 8] w fun e w' => DPost w0 rb t d w ((.inl (ftP x 15 a) : RD (h + 1))) e w' := by
  have u1 := up_alloc w (.cells #[.int .i64 x, .int .i64 ((x + L : Nat) : Int), .int .i64 8, .int .i64 0, .int .i64 0, .bool false, .slice none 0 0, .string ⟨#[]⟩, .slice none 0 0, .slice none 0 0, .int .i64 0] 50)
  have g1 := heap_alloc_new w (.cells #[.int .i64 x, .int .i64 ((x + L : Nat) : Int), .int .i64 8, .int .i64 0, .int .i64 0, .bool false, .slice none 0 0, .string ⟨#[]⟩, .slice none 0 0, .slice none 0 0, .int .i64 0] 50)
  have z1 : (w.alloc (.cells #[.int .i64 x, .int .i64 ((x + L : Nat) : Int), .int .i64 8, .int .i64 0, .int .i64 0, .bool false, .slice none 0 0, .string ⟨#[]⟩, .slice none 0 0, .slice none 0 0, .int .i64 0] 50)).heap.size = w.heap.size + 1 := World.size_alloc _ _
  obtain ⟨W1, hW1⟩ : ∃ W1, W1 = w.alloc (.cells #[.int .i64 x, .int .i64 ((x + L : Nat) : Int), .int .i64 8, .int .i64 0, .int .i64 0, .bool false, .slice none 0 0, .string ⟨#[]⟩, .slice none 0 0, .slice none 0 0, .int .i64 0] 50) := ⟨_, rfl⟩
  rw [← hW1] at u1 g1 z1
  have u2 := up_alloc W1 zer11
  have z2 : (W1.alloc zer11).heap.size = w.heap.size + 2 := by rw [World.size_alloc, z1]
  have g2 : (W1.alloc zer11).heap[w.heap.size + 1]? = some zer11 := by rw [← z1]; exact heap_alloc_new W1 zer11
  have g1' := u2.old g1
  have uB := u1.tr u2
  have hlt : rb < w.heap.size := hs.lt
  have hsz : w0.heap.size ≤ w.heap.size := hs.up.size
  have hA := hs.more5 uB
  obtain ⟨m0, m1, m2, m3, m4, m5, m6, m7, m8, m9, m10⟩ := cells11 g1'
  have KS := fault_P w0 rb t a d x 15 _ hA
  have hPf : (ftP x 15 a).k = 11 := rfl
  generalize ftP x 15 a = P at *
  have HS := hide KS
  have hP11 := hide hPf
  clear KS hPf
  have HG := hide (And.intro g1' (And.intro g2 (And.intro uB (And.intro hlt (And.intro hsz z2)))))
  rw [hW1] at HS HG m0 m1 m2 m3 m4 m5 m6 m7 m8 m9 m10
  unfold zer11 at HS HG m0 m1 m2 m3 m4 m5 m6 m7 m8 m9 m10
  clear u1 g1 z1 u2 g2 g1' uB z2 hs hA hlt hsz
  clear hW1 W1
  unfold pc0 pcV
  unfold pcP pcV at HS
  go_enter Tryd.func13, Tryd.ntmps13
  go_wp2_with (go_at_call 22; refine HS.out.mono ?_; rintro e w2 ⟨rfl, h2, k2⟩; clear m0 m1 m2 m3 m4 m5 m6 m7 m8 m9 m10; have g2 := k2.old (by have := HG.out.2.2.2.1; omega) HG.out.2.1; obtain ⟨f0, f1, f2, f3, f4, f5, f6, f7, f8, f9, f10⟩ := frozen11 g2; obtain ⟨d0, d1, d2, d3, d4, d5, d6, d7, d8, d9, d10⟩ := cells11 g2; have HG2 := hide g2; have H2 := hide h2; have HK2 := hide k2; clear h2 k2; clear g2)
  obtain ⟨q1, q2⟩ := sto11 HG2.out (.int .i64 (P.x : Int)) (.int .i64 (P.y : Int)) (.int .i64 (P.k : Int)) (.int .i64 (P.dk : Int)) (.int .i64 (P.n : Int)) (.bool false) (.slice none 0 0) (.string P.s) (.slice none 0 0) (.slice none 0 0) (.int .i64 (P.er : Int))
  clear f0 f1 f2 f3 f4 f5 f6 f7 f8 f9 f10 d0 d1 d2 d3 d4 d5 d6 d7 d8 d9 d10
  generalize (((((((((((w2.setCell ⟨(w.heap.size + 1), 0, none⟩ (.int .i64 (P.x : Int))).setCell ⟨(w.heap.size + 1), 1, none⟩ (.int .i64 (P.y : Int))).setCell ⟨(w.heap.size + 1), 2, none⟩ (.int .i64 (P.k : Int))).setCell ⟨(w.heap.size + 1), 3, none⟩ (.int .i64 (P.dk : Int))).setCell ⟨(w.heap.size + 1), 4, none⟩ (.int .i64 (P.n : Int))).setCell ⟨(w.heap.size + 1), 5, none⟩ (.bool false)).setCell ⟨(w.heap.size + 1), 6, none⟩ (.slice none 0 0)).setCell ⟨(w.heap.size + 1), 7, none⟩ (.string P.s)).setCell ⟨(w.heap.size + 1), 8, none⟩ (.slice none 0 0)).setCell ⟨(w.heap.size + 1), 9, none⟩ (.slice none 0 0)).setCell ⟨(w.heap.size + 1), 10, none⟩ (.int .i64 (P.er : Int))) = W4 at *
  obtain ⟨d0, d1, d2, d3, d4, d5, d6, d7, d8, d9, d10⟩ := cells11 q1
  refine bodyPost_ret (by simp [results, Tryd.results13, go_sem, d0, d1, d2, d3, d4, d5, d6, d7, d8, d9, d10]; rfl) rfl ?_
  obtain ⟨-, -, uB, hlt, hsz, z2⟩ := HG.out
  exact ⟨Kr.join uB HK2.out q2 (by omega), by simp [pcP, pcV], hP11.out, ⟨q2.up H2.out.up (by omega), H2.out.ge, q2.old (by omega) H2.out.cs⟩⟩

set_option maxHeartbeats 4000000 in
set_option maxRecDepth 100000 in
theorem datum6 (w0 : World) (rb : Nat) (t : ByteArray) (a d h x L : Nat) (w : World) (hs : RS w0 rb t a d w) (ht : t.size ≤ 100000000) (hat : a ≤ t.size) :
    Calls Tryd.prog 13 #[.pointer (some ⟨rb, 0, none⟩), pc0 x ((x + L : Nat) : Int) 6] w fun e w' => DPost w0 rb t d w (ofLP h (quoP t.data.toList x (t.data.toList.length + 1) a [])) e w' := by
  have u1 := up_alloc w (.cells #[.int .i64 x, .int .i64 ((x + L : Nat) : Int), .int .i64 6, .int .i64 0, .int .i64 0, .bool false, .slice none 0 0, .string ⟨#[]⟩, .slice none 0 0, .slice none 0 0, .int .i64 0] 50)
  have g1 := heap_alloc_new w (.cells #[.int .i64 x, .int .i64 ((x + L : Nat) : Int), .int .i64 6, .int .i64 0, .int .i64 0, .bool false, .slice none 0 0, .string ⟨#[]⟩, .slice none 0 0, .slice none 0 0, .int .i64 0] 50)
  have z1 : (w.alloc (.cells #[.int .i64 x, .int .i64 ((x + L : Nat) : Int), .int .i64 6, .int .i64 0, .int .i64 0, .bool false, .slice none 0 0, .string ⟨#[]⟩, .slice none 0 0, .slice none 0 0, .int .i64 0] 50)).heap.size = w.heap.size + 1 := World.size_alloc _ _
  obtain ⟨W1, hW1⟩ : ∃ W1, W1 = w.alloc (.cells #[.int .i64 x, .int .i64 ((x + L : Nat) : Int), .int .i64 6, .int .i64 0, .int .i64 0, .bool false, .slice none 0 0, .string ⟨#[]⟩, .slice none 0 0, .slice none 0 0, .int .i64 0] 50) := ⟨_, rfl⟩
  rw [← hW1] at u1 g1 z1
  have u2 := up_alloc W1 zer11
  have z2 : (W1.alloc zer11).heap.size = w.heap.size + 2 := by rw [World.size_alloc, z1]
  have g2 : (W1.alloc zer11).heap[w.heap.size + 1]? = some zer11 := by rw [← z1]; exact heap_alloc_new W1 zer11
  have g1' := u2.old g1
  have uB := u1.tr u2
  have hlt : rb < w.heap.size := hs.lt
  have hsz : w0.heap.size ≤ w.heap.size := hs.up.size
  have hA := hs.more5 uB
  obtain ⟨m0, m1, m2, m3, m4, m5, m6, m7, m8, m9, m10⟩ := cells11 g1'
  have KS := quoted_P w0 rb t a d (tkP x L 6) (t.data.toList.length + 1) _ hA ht hat (by rw [bytes_len]; omega)
  have hPf : (quoP t.data.toList (tkP x L 6).x (t.data.toList.length + 1) a []).k = 11 ∨ ((quoP t.data.toList (tkP x L 6).x (t.data.toList.length + 1) a []).k = 10 ∧ (quoP t.data.toList (tkP x L 6).x (t.data.toList.length + 1) a []).er = 0 ∧ (quoP t.data.toList (tkP x L 6).x (t.data.toList.length + 1) a []).n ≤ 256) := (by rcases quoP_ok t.data.toList (tkP x L 6).x (t.data.toList.length + 1) a [] with h | h; exact .inl h.1; exact .inr ⟨h.1, h.2.1, h.2.2.1⟩)
  show Calls _ _ _ _ (fun e w' => DPost w0 rb t d w (ofLP h (quoP t.data.toList (tkP x L 6).x (t.data.toList.length + 1) a [])) e w')
  generalize quoP t.data.toList (tkP x L 6).x (t.data.toList.length + 1) a [] = P at *
  have HS := hide KS
  have hPok := hide hPf
  clear KS hPf
  have HG := hide (And.intro g1' (And.intro g2 (And.intro uB (And.intro hlt (And.intro hsz z2)))))
  rw [hW1] at HS HG m0 m1 m2 m3 m4 m5 m6 m7 m8 m9 m10
  unfold zer11 at HS HG m0 m1 m2 m3 m4 m5 m6 m7 m8 m9 m10
  clear u1 g1 z1 u2 g2 g1' uB z2 hs hA hlt hsz
  clear hW1 W1
  unfold pc0 pcV
  unfold pcP tkP pcV at HS
  go_enter Tryd.func13, Tryd.ntmps13
  go_wp2_with (go_at_call 24; refine HS.out.mono ?_; rintro e w2 ⟨rfl, h2, k2⟩; clear m0 m1 m2 m3 m4 m5 m6 m7 m8 m9 m10; have g2 := k2.old (by have := HG.out.2.2.2.1; omega) HG.out.2.1; obtain ⟨f0, f1, f2, f3, f4, f5, f6, f7, f8, f9, f10⟩ := frozen11 g2; obtain ⟨d0, d1, d2, d3, d4, d5, d6, d7, d8, d9, d10⟩ := cells11 g2; have HG2 := hide g2; have H2 := hide h2; have HK2 := hide k2; clear h2 k2; clear g2)
  obtain ⟨q1, q2⟩ := sto11 HG2.out (.int .i64 (P.x : Int)) (.int .i64 (P.y : Int)) (.int .i64 (P.k : Int)) (.int .i64 (P.dk : Int)) (.int .i64 (P.n : Int)) (.bool false) (.slice none 0 0) (.string P.s) (.slice none 0 0) (.slice none 0 0) (.int .i64 (P.er : Int))
  clear f0 f1 f2 f3 f4 f5 f6 f7 f8 f9 f10 d0 d1 d2 d3 d4 d5 d6 d7 d8 d9 d10
  generalize (((((((((((w2.setCell ⟨(w.heap.size + 1), 0, none⟩ (.int .i64 (P.x : Int))).setCell ⟨(w.heap.size + 1), 1, none⟩ (.int .i64 (P.y : Int))).setCell ⟨(w.heap.size + 1), 2, none⟩ (.int .i64 (P.k : Int))).setCell ⟨(w.heap.size + 1), 3, none⟩ (.int .i64 (P.dk : Int))).setCell ⟨(w.heap.size + 1), 4, none⟩ (.int .i64 (P.n : Int))).setCell ⟨(w.heap.size + 1), 5, none⟩ (.bool false)).setCell ⟨(w.heap.size + 1), 6, none⟩ (.slice none 0 0)).setCell ⟨(w.heap.size + 1), 7, none⟩ (.string P.s)).setCell ⟨(w.heap.size + 1), 8, none⟩ (.slice none 0 0)).setCell ⟨(w.heap.size + 1), 9, none⟩ (.slice none 0 0)).setCell ⟨(w.heap.size + 1), 10, none⟩ (.int .i64 (P.er : Int))) = W4 at *
  obtain ⟨d0, d1, d2, d3, d4, d5, d6, d7, d8, d9, d10⟩ := cells11 q1
  refine bodyPost_ret (by simp [results, Tryd.results13, go_sem, d0, d1, d2, d3, d4, d5, d6, d7, d8, d9, d10]; rfl) rfl ?_
  obtain ⟨-, -, uB, hlt, hsz, z2⟩ := HG.out
  exact ofLP_post (by simp [pcP, pcV]) ⟨q2.up H2.out.up (by omega), H2.out.ge, q2.old (by omega) H2.out.cs⟩ (Kr.join uB HK2.out q2 (by omega)) hPok.out

set_option maxHeartbeats 4000000 in
set_option maxRecDepth 100000 in
theorem datum7 (w0 : World) (rb : Nat) (t : ByteArray) (a d h x L : Nat) (w : World) (hs : RS w0 rb t a d w) (ht : t.size ≤ 100000000) (hxy : 2 ≤ L) (hy : x + L ≤ t.size) :
    Calls Tryd.prog 13 #[.pointer (some ⟨rb, 0, none⟩), pc0 x ((x + L : Nat) : Int) 7] w fun e w' => DPost w0 rb t d w (ofLP h (letP t.data.toList x (x + L) a)) e w' := by
  have u1 := up_alloc w (.cells #[.int .i64 x, .int .i64 ((x + L : Nat) : Int), .int .i64 7, .int .i64 0, .int .i64 0, .bool false, .slice none 0 0, .string ⟨#[]⟩, .slice none 0 0, .slice none 0 0, .int .i64 0] 50)
  have g1 := heap_alloc_new w (.cells #[.int .i64 x, .int .i64 ((x + L : Nat) : Int), .int .i64 7, .int .i64 0, .int .i64 0, .bool false, .slice none 0 0, .string ⟨#[]⟩, .slice none 0 0, .slice none 0 0, .int .i64 0] 50)
  have z1 : (w.alloc (.cells #[.int .i64 x, .int .i64 ((x + L : Nat) : Int), .int .i64 7, .int .i64 0, .int .i64 0, .bool false, .slice none 0 0, .string ⟨#[]⟩, .slice none 0 0, .slice none 0 0, .int .i64 0] 50)).heap.size = w.heap.size + 1 := World.size_alloc _ _
  obtain ⟨W1, hW1⟩ : ∃ W1, W1 = w.alloc (.cells #[.int .i64 x, .int .i64 ((x + L : Nat) : Int), .int .i64 7, .int .i64 0, .int .i64 0, .bool false, .slice none 0 0, .string ⟨#[]⟩, .slice none 0 0, .slice none 0 0, .int .i64 0] 50) := ⟨_, rfl⟩
  rw [← hW1] at u1 g1 z1
  have u2 := up_alloc W1 zer11
  have z2 : (W1.alloc zer11).heap.size = w.heap.size + 2 := by rw [World.size_alloc, z1]
  have g2 : (W1.alloc zer11).heap[w.heap.size + 1]? = some zer11 := by rw [← z1]; exact heap_alloc_new W1 zer11
  have g1' := u2.old g1
  have uB := u1.tr u2
  have hlt : rb < w.heap.size := hs.lt
  have hsz : w0.heap.size ≤ w.heap.size := hs.up.size
  have hA := hs.more5 uB
  obtain ⟨m0, m1, m2, m3, m4, m5, m6, m7, m8, m9, m10⟩ := cells11 g1'
  have KS := letter_P w0 rb t a d x (x + L) 7 _ hA (by omega) hy ht
  have hPf : (letP t.data.toList x (x + L) a).k = 11 ∨ ((letP t.data.toList x (x + L) a).k = 10 ∧ (letP t.data.toList x (x + L) a).er = 0 ∧ (letP t.data.toList x (x + L) a).n ≤ 256) := letP_ok _ _ _ _
  generalize letP t.data.toList x (x + L) a = P at *
  have HS := hide KS
  have hPok := hide hPf
  clear KS hPf
  have HG := hide (And.intro g1' (And.intro g2 (And.intro uB (And.intro hlt (And.intro hsz z2)))))
  rw [hW1] at HS HG m0 m1 m2 m3 m4 m5 m6 m7 m8 m9 m10
  unfold zer11 at HS HG m0 m1 m2 m3 m4 m5 m6 m7 m8 m9 m10
  clear u1 g1 z1 u2 g2 g1' uB z2 hs hA hlt hsz
  clear hW1 W1
  unfold pc0 pcV
  unfold pcP pc0 pcV at HS
  go_enter Tryd.func13, Tryd.ntmps13
  go_wp2_with (go_at_call 25; refine HS.out.mono ?_; rintro e w2 ⟨rfl, h2, k2⟩; clear m0 m1 m2 m3 m4 m5 m6 m7 m8 m9 m10; have g2 := k2.old (by have := HG.out.2.2.2.1; omega) HG.out.2.1; obtain ⟨f0, f1, f2, f3, f4, f5, f6, f7, f8, f9, f10⟩ := frozen11 g2; obtain ⟨d0, d1, d2, d3, d4, d5, d6, d7, d8, d9, d10⟩ := cells11 g2; have HG2 := hide g2; have H2 := hide h2; have HK2 := hide k2; clear h2 k2; clear g2)
  obtain ⟨q1, q2⟩ := sto11 HG2.out (.int .i64 (P.x : Int)) (.int .i64 (P.y : Int)) (.int .i64 (P.k : Int)) (.int .i64 (P.dk : Int)) (.int .i64 (P.n : Int)) (.bool false) (.slice none 0 0) (.string P.s) (.slice none 0 0) (.slice none 0 0) (.int .i64 (P.er : Int))
  clear f0 f1 f2 f3 f4 f5 f6 f7 f8 f9 f10 d0 d1 d2 d3 d4 d5 d6 d7 d8 d9 d10
  generalize (((((((((((w2.setCell ⟨(w.heap.size + 1), 0, none⟩ (.int .i64 (P.x : Int))).setCell ⟨(w.heap.size + 1), 1, none⟩ (.int .i64 (P.y : Int))).setCell ⟨(w.heap.size + 1), 2, none⟩ (.int .i64 (P.k : Int))).setCell ⟨(w.heap.size + 1), 3, none⟩ (.int .i64 (P.dk : Int))).setCell ⟨(w.heap.size + 1), 4, none⟩ (.int .i64 (P.n : Int))).setCell ⟨(w.heap.size + 1), 5, none⟩ (.bool false)).setCell ⟨(w.heap.size + 1), 6, none⟩ (.slice none 0 0)).setCell ⟨(w.heap.size + 1), 7, none⟩ (.string P.s)).setCell ⟨(w.heap.size + 1), 8, none⟩ (.slice none 0 0)).setCell ⟨(w.heap.size + 1), 9, none⟩ (.slice none 0 0)).setCell ⟨(w.heap.size + 1), 10, none⟩ (.int .i64 (P.er : Int))) = W4 at *
  obtain ⟨d0, d1, d2, d3, d4, d5, d6, d7, d8, d9, d10⟩ := cells11 q1
  refine bodyPost_ret (by simp [results, Tryd.results13, go_sem, d0, d1, d2, d3, d4, d5, d6, d7, d8, d9, d10]; rfl) rfl ?_
  obtain ⟨-, -, uB, hlt, hsz, z2⟩ := HG.out
  exact ofLP_post (by simp [pcP, pcV]) ⟨q2.up H2.out.up (by omega), H2.out.ge, q2.old (by omega) H2.out.cs⟩ (Kr.join uB HK2.out q2 (by omega)) hPok.out

set_option maxHeartbeats 4000000 in
set_option maxRecDepth 100000 in
theorem datum9 (w0 : World) (rb : Nat) (t : ByteArray) (a d h x L : Nat) (w : World) (hs : RS w0 rb t a d w) (ht : t.size ≤ 100000000) (hxy : 1 ≤ L) (hy : x + L ≤ t.size) :
    Calls Tryd.prog 13 #[.pointer (some ⟨rb, 0, none⟩), pc0 x ((x + L : Nat) : Int) 9] w fun e w' => DPost w0 rb t d w (atomR h t.data.toList x (x + L) a) e w' := by
  have u1 := up_alloc w (.cells #[.int .i64 x, .int .i64 ((x + L : Nat) : Int), .int .i64 9, .int .i64 0, .int .i64 0, .bool false, .slice none 0 0, .string ⟨#[]⟩, .slice none 0 0, .slice none 0 0, .int .i64 0] 50)
  have g1 := heap_alloc_new w (.cells #[.int .i64 x, .int .i64 ((x + L : Nat) : Int), .int .i64 9, .int .i64 0, .int .i64 0, .bool false, .slice none 0 0, .string ⟨#[]⟩, .slice none 0 0, .slice none 0 0, .int .i64 0] 50)
  have z1 : (w.alloc (.cells #[.int .i64 x, .int .i64 ((x + L : Nat) : Int), .int .i64 9, .int .i64 0, .int .i64 0, .bool false, .slice none 0 0, .string ⟨#[]⟩, .slice none 0 0, .slice none 0 0, .int .i64 0] 50)).heap.size = w.heap.size + 1 := World.size_alloc _ _
  obtain ⟨W1, hW1⟩ : ∃ W1, W1 = w.alloc (.cells #[.int .i64 x, .int .i64 ((x + L : Nat) : Int), .int .i64 9, .int .i64 0, .int .i64 0, .bool false, .slice none 0 0, .string ⟨#[]⟩, .slice none 0 0, .slice none 0 0, .int .i64 0] 50) := ⟨_, rfl⟩
  rw [← hW1] at u1 g1 z1
  have u2 := up_alloc W1 zer11
  have z2 : (W1.alloc zer11).heap.size = w.heap.size + 2 := by rw [World.size_alloc, z1]
  have g2 : (W1.alloc zer11).heap[w.heap.size + 1]? = some zer11 := by rw [← z1]; exact heap_alloc_new W1 zer11
  have g1' := u2.old g1
  have uB := u1.tr u2
  have hlt : rb < w.heap.size := hs.lt
  have hsz : w0.heap.size ≤ w.heap.size := hs.up.size
  have hA := hs.more5 uB
  obtain ⟨m0, m1, m2, m3, m4, m5, m6, m7, m8, m9, m10⟩ := cells11 g1'
  have KS := atom_R w0 rb t a d x (x + L) h 9 _ hA (by omega) hy ht
  have HS := hide KS
  clear KS
  have HG := hide (And.intro g1' (And.intro g2 (And.intro uB (And.intro hlt (And.intro hsz z2)))))
  rw [hW1] at HS HG m0 m1 m2 m3 m4 m5 m6 m7 m8 m9 m10
  unfold zer11 at HS HG m0 m1 m2 m3 m4 m5 m6 m7 m8 m9 m10
  clear u1 g1 z1 u2 g2 g1' uB z2 hs hA hlt hsz
  clear hW1 W1
  revert HS
  match atomR h t.data.toList x (x + L) a with
  | .inl q =>
    intro HS
    unfold pc0 pcV
    unfold DPost pcP pc0 pcV at HS
    go_enter Tryd.func13, Tryd.ntmps13
    go_wp2_with (go_at_call 26; refine HS.out.mono ?_; rintro e w2 ⟨k2, rfl, h11, h2⟩; clear m0 m1 m2 m3 m4 m5 m6 m7 m8 m9 m10; have g2 := k2.old (by have := HG.out.2.2.2.1; omega) HG.out.2.1; obtain ⟨f0, f1, f2, f3, f4, f5, f6, f7, f8, f9, f10⟩ := frozen11 g2; obtain ⟨d0, d1, d2, d3, d4, d5, d6, d7, d8, d9, d10⟩ := cells11 g2; have HG2 := hide g2; have H2 := hide (And.intro h11 h2); have HK2 := hide k2; clear h2 k2 h11; clear g2)
    obtain ⟨q1, q2⟩ := sto11 HG2.out (.int .i64 (q.x : Int)) (.int .i64 (q.y : Int)) (.int .i64 (q.k : Int)) (.int .i64 (q.dk : Int)) (.int .i64 (q.n : Int)) (.bool false) (.slice none 0 0) (.string q.s) (.slice none 0 0) (.slice none 0 0) (.int .i64 (q.er : Int))
    clear f0 f1 f2 f3 f4 f5 f6 f7 f8 f9 f10 d0 d1 d2 d3 d4 d5 d6 d7 d8 d9 d10
    generalize (((((((((((w2.setCell ⟨(w.heap.size + 1), 0, none⟩ (.int .i64 (q.x : Int))).setCell ⟨(w.heap.size + 1), 1, none⟩ (.int .i64 (q.y : Int))).setCell ⟨(w.heap.size + 1), 2, none⟩ (.int .i64 (q.k : Int))).setCell ⟨(w.heap.size + 1), 3, none⟩ (.int .i64 (q.dk : Int))).setCell ⟨(w.heap.size + 1), 4, none⟩ (.int .i64 (q.n : Int))).setCell ⟨(w.heap.size + 1), 5, none⟩ (.bool false)).setCell ⟨(w.heap.size + 1), 6, none⟩ (.slice none 0 0)).setCell ⟨(w.heap.size + 1), 7, none⟩ (.string q.s)).setCell ⟨(w.heap.size + 1), 8, none⟩ (.slice none 0 0)).setCell ⟨(w.heap.size + 1), 9, none⟩ (.slice none 0 0)).setCell ⟨(w.heap.size + 1), 10, none⟩ (.int .i64 (q.er : Int))) = W4 at *
    obtain ⟨d0, d1, d2, d3, d4, d5, d6, d7, d8, d9, d10⟩ := cells11 q1
    refine bodyPost_ret (by simp [results, Tryd.results13, go_sem, d0, d1, d2, d3, d4, d5, d6, d7, d8, d9, d10]; rfl) rfl ?_
    obtain ⟨-, -, uB, hlt, hsz, z2⟩ := HG.out
    exact ⟨Kr.join uB HK2.out q2 (by omega), by simp [pcP, pcV], H2.out.1, ⟨q2.up H2.out.2.up (by omega), H2.out.2.ge, q2.old (by omega) H2.out.2.cs⟩⟩
  | .inr (x2, y2, tr, a2) =>
    intro HS
    unfold pc0 pcV
    unfold DPost pc0 pcV at HS
    go_enter Tryd.func13, Tryd.ntmps13
    go_wp2_with (go_at_call 26; refine HS.out.mono ?_; rintro e w2 ⟨k2, ck, cn, cb, j1, j2, j3, cs, i1, i2, i3, r1, r2, r3, rfl, hq2, h2⟩; clear m0 m1 m2 m3 m4 m5 m6 m7 m8 m9 m10; have g2 := k2.old (by have := HG.out.2.2.2.1; omega) HG.out.2.1; obtain ⟨f0, f1, f2, f3, f4, f5, f6, f7, f8, f9, f10⟩ := frozen11 g2; obtain ⟨d0, d1, d2, d3, d4, d5, d6, d7, d8, d9, d10⟩ := cells11 g2; have HG2 := hide g2; have H2 := hide (And.intro hq2 h2); have HK2 := hide k2; clear h2 k2 hq2; clear g2)
    obtain ⟨q1, q2⟩ := sto11 HG2.out (.int .i64 (x2 : Int)) (.int .i64 (y2 : Int)) (.int .i64 10) (.int .i64 ck) (.int .i64 cn) (.bool cb) (.slice j1 j2 j3) (.string cs) (.slice i1 i2 i3) (.slice r1 r2 r3) (.int .i64 0)
    clear f0 f1 f2 f3 f4 f5 f6 f7 f8 f9 f10 d0 d1 d2 d3 d4 d5 d6 d7 d8 d9 d10
    generalize (((((((((((w2.setCell ⟨(w.heap.size + 1), 0, none⟩ (.int .i64 (x2 : Int))).setCell ⟨(w.heap.size + 1), 1, none⟩ (.int .i64 (y2 : Int))).setCell ⟨(w.heap.size + 1), 2, none⟩ (.int .i64 10)).setCell ⟨(w.heap.size + 1), 3, none⟩ (.int .i64 ck)).setCell ⟨(w.heap.size + 1), 4, none⟩ (.int .i64 cn)).setCell ⟨(w.heap.size + 1), 5, none⟩ (.bool cb)).setCell ⟨(w.heap.size + 1), 6, none⟩ (.slice j1 j2 j3)).setCell ⟨(w.heap.size + 1), 7, none⟩ (.string cs)).setCell ⟨(w.heap.size + 1), 8, none⟩ (.slice i1 i2 i3)).setCell ⟨(w.heap.size + 1), 9, none⟩ (.slice r1 r2 r3)).setCell ⟨(w.heap.size + 1), 10, none⟩ (.int .i64 0)) = W4 at *
    obtain ⟨d0, d1, d2, d3, d4, d5, d6, d7, d8, d9, d10⟩ := cells11 q1
    refine bodyPost_ret (by simp [results, Tryd.results13, go_sem, d0, d1, d2, d3, d4, d5, d6, d7, d8, d9, d10]; rfl) rfl ?_
    obtain ⟨-, -, uB, hlt, hsz, z2⟩ := HG.out
    exact ⟨Kr.join uB HK2.out q2 (by omega), ck, cn, cb, j1, j2, j3, cs, i1, i2, i3, r1, r2, r3, by simp [pcV], DatQ.late H2.out.1 q2 (by have := z2; omega) (by have := z2; omega), ⟨q2.up H2.out.2.up (by omega), H2.out.2.ge, q2.old (by omega) H2.out.2.cs⟩⟩

end Go.Proofs.YteipogfolnlblaaDoor
