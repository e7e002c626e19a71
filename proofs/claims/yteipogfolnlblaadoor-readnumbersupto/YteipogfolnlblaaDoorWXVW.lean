/-
  What is proved here: package read's dotted, next and datum at any text. package read's One, from any place of a text on.
-/
import Derived.Test.YteipogfolnlblaaDoorWXU
import Derived.Test.YteipogfolnlblaaDoorWXO
import Derived.Test.YteipogfolnlblaaDoorWXJ
namespace Go.Proofs.YteipogfolnlblaaDoor
open Go Go.RowKit

theorem dot_of (t : ByteArray) (m : Nat) (ht : t.size ≤ 100000000) (hN : NextOK t (m + 1)) (hD : DatOK t m) : DotOK t m := by
  intro w0 rb h x y k a f lo I ao n cap xs w hs hh ha hm hf hrl hlo h0lo hIl hL
  have hl : t.data.toList.length = t.size := bytes_len t
  obtain ⟨ao', cap', e⟩ := hL.shape
  cases e
  have ih := rdM_ok t.data.toList f h
  have hn := ih.1 0 a (by rw [hl]; exact ha)
  have hnd := nd_ok ih (a := a) (by rw [hl]; exact ha)
  rw [hl] at hn
  have KN := fun (W : World) (hW : RS w0 rb t a (100 - h) W) => hN w0 rb h a f W hW (by omega) ha (by omega) (by omega)
  have pre : ∀ b, b ≤ t.size → t.size - b < m → 3 * (t.size - b) + 3 ≤ f → (nowP ((rdM t.data.toList f h).nx 0 b) ∧ 1 ≤ f) ∨ (t.size - ((rdM t.data.toList f h).nx 0 b).a < m ∧ 3 * (t.size - ((rdM t.data.toList f h).nx 0 b).a) + 4 ≤ f) := fun b hb h1 h2 => by
    have hn := ih.1 0 b (by rw [hl]; exact hb)
    rw [hl] at hn
    by_cases n0 : nowP ((rdM t.data.toList f h).nx 0 b)
    · exact .inl ⟨n0, by omega⟩
    · have g1 := hn.2 (fun e => n0 (.inr e))
      have g2 := g1.2.2 (fun e => n0 (.inl e))
      exact .inr ⟨by omega, by omega⟩
  have KD := fun (W : World) (hW : RS w0 rb t ((rdM t.data.toList f h).nx 0 a).a (100 - h) W) => hD w0 rb h _ f W hW (by omega) hn.1.1 hn.1.2.1 hn.1.2.2 (pre a ha hm hf)
  unfold dotM
  by_cases c4 : ((rdM t.data.toList f h).nx 0 a).k = 4
  · rw [if_pos c4]
    exact dot_close w0 rb t h x y k a (100 - h) lo I ao cap _ w hs hrl hlo KN c4
  rw [if_neg c4]
  match hr : (rdM t.data.toList f h).dt ((rdM t.data.toList f h).nx 0 a) with
  | .inl q' =>
    rw [hr] at KD
    have hq : q'.k = 11 := by have := hnd.1; rw [hr] at this; exact this
    obtain ⟨tx, ty, tk, tdk, tn, ts, ter, ta⟩ := q'
    have hq : tk = 11 := hq
    subst hq
    exact dot_bad w0 rb t h x y k a (100 - h) lo I ao cap _ w hs hrl hlo KN c4 tx ty tdk tn ter ta ts KD
  | .inr (x2, y2, tr, a1) =>
    rw [hr] at KD
    dsimp only
    have hlt := nd_lt (T := t.data.toList) (f := f) (h := h) (a := a) (by omega) (by rw [hl]; exact ha) hr
    rw [hl] at hlt
    have hit := (rdM_items t.data.toList f h).1 _ _ _ _ _ (by rw [hl]; exact hn.1.1) hn.1.2.1 hn.1.2.2 hr
    have hn2 := ih.1 0 a1 (by rw [hl]; exact hlt.2.2)
    rw [hl] at hn2
    have KN2 := fun (W : World) (hW : RS w0 rb t a1 (100 - h) W) => hN w0 rb h a1 f W hW (by omega) hlt.2.2 (by omega) (by omega)
    by_cases p4 : ((rdM t.data.toList f h).nx 0 a1).k = 4
    · rw [if_pos p4]
      exact dot_ok w0 rb t h x y k a (100 - h) lo I ao cap _ w hs hrl hlo KN c4 x2 y2 a1 tr _ KD KN2 p4 xs hL (by omega) h0lo
    rw [if_neg p4]
    have KD2 := fun (W : World) (hW : RS w0 rb t ((rdM t.data.toList f h).nx 0 a1).a (100 - h) W) => hD w0 rb h _ f W hW (by omega) hn2.1.1 hn2.1.2.1 hn2.1.2.2 (pre a1 hlt.2.2 (by omega) (by omega))
    have hnd2 := nd_ok ih (a := a1) (by rw [hl]; exact hlt.2.2)
    by_cases p0 : ((rdM t.data.toList f h).nx 0 a1).k = 0 ∨ ((rdM t.data.toList f h).nx 0 a1).k = 11
    · rw [if_pos p0]
      match hr2 : (rdM t.data.toList f h).dt ((rdM t.data.toList f h).nx 0 a1) with
      | .inl q' =>
        rw [hr2] at KD2
        have hq : q'.k = 11 := by have := hnd2.1; rw [hr2] at this; exact this
        obtain ⟨tx, ty, tk, tdk, tn, ts, ter, ta⟩ := q'
        have hq : tk = 11 := hq
        subst hq
        rcases p0 with p0 | p0
        · exact dot_now0 w0 rb t h x y k a (100 - h) lo I ao cap _ w hs hrl hlo KN c4 x2 y2 a1 tr _ KD KN2 p0 tx ty tdk tn ter ta ts KD2
        · exact dot_now11 w0 rb t h x y k a (100 - h) lo I ao cap _ w hs hrl hlo KN c4 x2 y2 a1 tr _ KD KN2 p0 tx ty tdk tn ter ta ts KD2
      | .inr (x3, y3, tr3, a3) =>
        exfalso
        have h3 := nd_lt (T := t.data.toList) (f := f) (h := h) (a := a1) (by omega) (by rw [hl]; exact hlt.2.2) hr2
        rcases p0 with p0 | p0
        · obtain ⟨g, rfl⟩ : ∃ g, f = g + 1 := ⟨f - 1, by omega⟩
          have e' : dtS t.data.toList (rdM t.data.toList g) h _ = .inr (x3, y3, tr3, a3) := hr2
          unfold dtS at e'
          rw [if_pos p0] at e'
          cases e'
        · obtain ⟨q, hq⟩ := dt_bad t.data.toList f h _ p0
          rw [hq] at hr2
          cases hr2
    rw [if_neg p0]
    exact dot_more w0 rb t h x y k a (100 - h) lo I ao cap _ w hs hrl hlo KN c4 x2 y2 a1 tr _ KD KN2 p4 (fun e => p0 (.inl e)) (fun e => p0 (.inr e))

/-- Whatever the text: datum and next do what the model does. -/
theorem datum_all (t : ByteArray) (ht : t.size ≤ 100000000) : ∀ m, DatOK t m
  | 0 => datum_of t 0 ht (fun w0 rb h x L k f w _ _ _ _ _ hm _ => by omega)
  | m + 1 => by
    have hD := datum_all t ht m
    have hN := next_of t m ht hD
    have hT := dot_of t m ht hN hD
    have hR := row_of t m ht hN hD hT
    have hA := abbr_of t m hN hD
    exact datum_of t (m + 1) ht (within_of t (m + 1) (nested_of t (m + 1) hR hA))

theorem next_all (t : ByteArray) (ht : t.size ≤ 100000000) (m : Nat) : NextOK t (m + 1) := next_of t m ht (datum_all t ht m)

set_option maxHeartbeats 8000000 in
set_option maxRecDepth 100000 in
theorem one_good (t : ByteArray) (at0 : Nat) (q : LP) (x y a2 H : Nat) (tr : Tr H) (w : World) (ht : t.size ≤ 65536) (hat : at0 ≤ t.size)
    (hn : ∀ W, RS w (w.heap.size + 1) t at0 0 W → Calls Tryd.prog 14 #[.pointer (some ⟨w.heap.size + 1, 0, none⟩)] W fun e w' => e = .returned (pcP q) ∧ RS w (w.heap.size + 1) t q.a 0 w' ∧ Kr (w.heap.size + 1) W w')
    (hd : ∀ W, RS w (w.heap.size + 1) t q.a 0 W → Calls Tryd.prog 13 #[.pointer (some ⟨w.heap.size + 1, 0, none⟩), pcP q] W fun e w' => DPost w (w.heap.size + 1) t 0 W ((.inr (x, y, tr, a2) : RD _)) e w') :
    Calls Tryd.prog 7 #[.string t, .int .i64 (at0 : Int)] w fun e w' => ∃ (k n : Int) (b : Bool) (m1 : Option Addr) (m2 m3 : Nat) (s : ByteArray) (i1 : Option Addr) (i2 i3 : Nat) (r1 : Option Addr) (r2 r3 : Nat), e = .returned (.tuple #[.agg #[.int .i64 k, .int .i64 n, .bool b, .slice m1 m2 m3, .string s, .slice i1 i2 i3, .slice r1 r2 r3], .int .i64 (y : Int), .int .i64 0]) ∧ DatQ (fun g => w.heap.size ≤ g) w' H tr [.int .i64 k, .int .i64 n, .bool b, .slice m1 m2 m3, .string s, .slice i1 i2 i3, .slice r1 r2 r3] ∧ Up w w' := by
  have u1 := up_alloc w zer7
  have g1 := heap_alloc_new w zer7
  have z1 : (w.alloc zer7).heap.size = w.heap.size + 1 := World.size_alloc _ _
  obtain ⟨W1, hW1⟩ : ∃ W1, W1 = w.alloc zer7 := ⟨_, rfl⟩
  rw [← hW1] at u1 g1 z1
  have u2 := up_alloc W1 (.cells #[.string t, .int .i64 (at0 : Int), .int .i64 0] 46)
  have z2 : (W1.alloc (.cells #[.string t, .int .i64 (at0 : Int), .int .i64 0] 46)).heap.size = w.heap.size + 2 := by rw [World.size_alloc, z1]
  have g2 : (W1.alloc (.cells #[.string t, .int .i64 (at0 : Int), .int .i64 0] 46)).heap[w.heap.size + 1]? = some (.cells #[.string t, .int .i64 (at0 : Int), .int .i64 0] 46 (0, 0)) := by rw [← z1]; exact heap_alloc_new W1 _
  have g1' := u2.old g1
  have hA : RS w (w.heap.size + 1) t at0 0 (W1.alloc (.cells #[.string t, .int .i64 (at0 : Int), .int .i64 0] 46)) := ⟨u1.tr u2, Nat.le_succ _, g2⟩
  have KN := hn _ hA
  have HN := hide KN
  have HD := hide hd
  have HG := hide (And.intro g1' z2)
  rw [hW1] at HN HG
  unfold zer7 at HN HG
  unfold pcP pcV at HN
  unfold DPost pcP pcV at HD
  have hI : (t.size : Int) ≤ 65536 := by omega
  have hI2 : ¬ ((65536 : Int) < (t.size : Int)) := by omega
  have hI4 : ¬ ((t.size : Int) < (at0 : Int)) := by omega
  have hI5 : ¬ ((at0 : Int) < 0) := by omega
  clear hn hd KN u1 g1 z1 u2 g2 g1' hA z2
  clear hW1 W1
  go_enter Tryd.func7, Tryd.ntmps7
  go_wp2_with (first
    | (go_at_call 14; refine HN.out.mono ?_; rintro e w3 ⟨rfl, h3, k3⟩; have H3 := hide (And.intro h3 k3.1.size); have b3 := hide (k3.old (Nat.ne_of_lt (Nat.lt_succ_self _)) HG.out.1); clear h3 k3)
    | (go_at_call 13; refine (HD.out _ H3.out.1).mono ?_; rintro e w4 ⟨k4, ck, cn, cb, j1, j2, j3, cs, i1, i2, i3, r1, r2, r3, rfl, hq4, h4⟩; have b4 := k4.old (Nat.ne_of_lt (Nat.lt_succ_self _)) b3.out; have u5 := up_alloc w4 (.cells #[.int .i64 (x : Int), .int .i64 (y : Int), .int .i64 10, .int .i64 ck, .int .i64 cn, .bool cb, .slice j1 j2 j3, .string cs, .slice i1 i2 i3, .slice r1 r2 r3, .int .i64 0] 50); have g5 := u5.old b4; obtain ⟨f0, f1, f2, f3, f4, f5, f6⟩ := frozen7k g5; obtain ⟨d0, d1, d2, d3, d4, d5, d6⟩ := cells7 g5; have H5 := hide (And.intro g5 (And.intro u5 (And.intro h4 hq4))); clear h4 k4 b4 u5 g5 hq4))
  have gp := heap_alloc_new w4 (.cells #[.int .i64 (x : Int), .int .i64 (y : Int), .int .i64 10, .int .i64 ck, .int .i64 cn, .bool cb, .slice j1 j2 j3, .string cs, .slice i1 i2 i3, .slice r1 r2 r3, .int .i64 0] 50)
  have hne : ¬ (w.heap.size = w4.heap.size) := by have := Nat.lt_of_lt_of_le (Nat.lt_succ_self w.heap.size) (Nat.le_of_lt H5.out.2.2.1.lt); omega
  have hne' : ¬ (w4.heap.size = w.heap.size) := fun e => hne e.symm
  generalize w4.alloc (.cells #[.int .i64 (x : Int), .int .i64 (y : Int), .int .i64 10, .int .i64 ck, .int .i64 cn, .bool cb, .slice j1 j2 j3, .string cs, .slice i1 i2 i3, .slice r1 r2 r3, .int .i64 0] 50) = W5 at *
  obtain ⟨m0, m1, m2, m3, m4, m5, m6, m7, m8, m9, m10⟩ := cells11 gp
  clear gp
  go_region
  go_wp2_with fail
  obtain ⟨g5, u5, h4, hq4⟩ := H5.out
  obtain ⟨q1, q2⟩ := sto7k g5 (.int .i64 ck) (.int .i64 cn) (.bool cb) (.slice j1 j2 j3) (.string cs) (.slice i1 i2 i3) (.slice r1 r2 r3)
  clear f0 f1 f2 f3 f4 f5 f6 d0 d1 d2 d3 d4 d5 d6 m0 m1 m2 m3 m4 m5 m6 m7 m8 m9 m10
  generalize (((((((W5.setCell ⟨w.heap.size, 0, none⟩ (.int .i64 ck)).setCell ⟨w.heap.size, 1, none⟩ (.int .i64 cn)).setCell ⟨w.heap.size, 2, none⟩ (.bool cb)).setCell ⟨w.heap.size, 3, none⟩ (.slice j1 j2 j3)).setCell ⟨w.heap.size, 4, none⟩ (.string cs)).setCell ⟨w.heap.size, 5, none⟩ (.slice i1 i2 i3)).setCell ⟨w.heap.size, 6, none⟩ (.slice r1 r2 r3)) = W6 at *
  obtain ⟨d0, d1, d2, d3, d4, d5, d6⟩ := cells7 q1
  refine bodyPost_ret (by simp [results, Tryd.results7, go_sem, d0, d1, d2, d3, d4, d5, d6]; rfl) rfl ?_
  have s3 := H3.out.2
  rw [HG.out.2] at s3
  exact ⟨ck, cn, cb, j1, j2, j3, cs, i1, i2, i3, r1, r2, r3, rfl, DatQ.keep (w := w4) (w' := W6.drew) (Q' := fun g => w.heap.size ≤ g) (fun g hg hq => (q2.2 g (Nat.lt_of_lt_of_le hg u5.size) (by omega)).trans (u5.block g hg)) (fun g _ hq => by omega) hq4, (q2.up (h4.up.tr u5) (Nat.le_refl _)).tr (up_drew _)⟩

set_option maxHeartbeats 8000000 in
set_option maxRecDepth 100000 in
theorem one_wrong (H : Nat) (t : ByteArray) (at0 : Nat) (q : LP) (tx ty tdk tn ter ta : Nat) (ts : ByteArray) (w : World) (ht : t.size ≤ 65536) (hat : at0 ≤ t.size)
    (hn : ∀ W, RS w (w.heap.size + 1) t at0 0 W → Calls Tryd.prog 14 #[.pointer (some ⟨w.heap.size + 1, 0, none⟩)] W fun e w' => e = .returned (pcP q) ∧ RS w (w.heap.size + 1) t q.a 0 w' ∧ Kr (w.heap.size + 1) W w')
    (hd : ∀ W, RS w (w.heap.size + 1) t q.a 0 W → Calls Tryd.prog 13 #[.pointer (some ⟨w.heap.size + 1, 0, none⟩), pcP q] W fun e w' => DPost w (w.heap.size + 1) t 0 W ((.inl ⟨tx, ty, 11, tdk, tn, ts, ter, ta⟩ : RD H)) e w') :
    Calls Tryd.prog 7 #[.string t, .int .i64 (at0 : Int)] w fun e w' => e = .returned (.tuple #[.agg #[.int .i64 0, .int .i64 0, .bool false, .slice none 0 0, .string ⟨#[]⟩, .slice none 0 0, .slice none 0 0], .int .i64 (tx : Int), .int .i64 (ter : Int)]) ∧ Up w w' := by
  have u1 := up_alloc w zer7
  have g1 := heap_alloc_new w zer7
  have z1 : (w.alloc zer7).heap.size = w.heap.size + 1 := World.size_alloc _ _
  obtain ⟨W1, hW1⟩ : ∃ W1, W1 = w.alloc zer7 := ⟨_, rfl⟩
  rw [← hW1] at u1 g1 z1
  have u2 := up_alloc W1 (.cells #[.string t, .int .i64 (at0 : Int), .int .i64 0] 46)
  have g2 : (W1.alloc (.cells #[.string t, .int .i64 (at0 : Int), .int .i64 0] 46)).heap[w.heap.size + 1]? = some (.cells #[.string t, .int .i64 (at0 : Int), .int .i64 0] 46 (0, 0)) := by rw [← z1]; exact heap_alloc_new W1 _
  have g1' := u2.old g1
  have hA : RS w (w.heap.size + 1) t at0 0 (W1.alloc (.cells #[.string t, .int .i64 (at0 : Int), .int .i64 0] 46)) := ⟨u1.tr u2, Nat.le_succ _, g2⟩
  have KN := hn _ hA
  have HN := hide KN
  have HD := hide hd
  have HG := hide g1'
  rw [hW1] at HN HG
  unfold zer7 at HN HG
  unfold pcP pcV at HN
  unfold DPost pcP pcV at HD
  have hI2 : ¬ ((65536 : Int) < (t.size : Int)) := by omega
  have hI4 : ¬ ((t.size : Int) < (at0 : Int)) := by omega
  have hI5 : ¬ ((at0 : Int) < 0) := by omega
  clear hn hd KN u1 g1 z1 u2 g2 g1' hA
  clear hW1 W1
  go_enter Tryd.func7, Tryd.ntmps7
  go_wp2_with (first
    | (go_at_call 14; refine HN.out.mono ?_; rintro e w3 ⟨rfl, h3, k3⟩; have H3 := hide h3; have b3 := hide (k3.old (Nat.ne_of_lt (Nat.lt_succ_self _)) HG.out); clear h3 k3)
    | (go_at_call 13; refine (HD.out _ H3.out).mono ?_; rintro e w4 ⟨k4, rfl, -, h4⟩; have b4 := k4.old (Nat.ne_of_lt (Nat.lt_succ_self _)) b3.out; have u5 := up_alloc w4 (.cells #[.int .i64 (tx : Int), .int .i64 (ty : Int), .int .i64 11, .int .i64 (tdk : Int), .int .i64 (tn : Int), .bool false, .slice none 0 0, .string ts, .slice none 0 0, .slice none 0 0, .int .i64 (ter : Int)] 50); have g5 := u5.old b4; obtain ⟨f0, f1, f2, f3, f4, f5, f6⟩ := frozen7k g5; obtain ⟨d0, d1, d2, d3, d4, d5, d6⟩ := cells7 g5; have H5 := hide (And.intro g5 (And.intro u5 h4)); clear h4 k4 b4 u5 g5))
  have gp := heap_alloc_new w4 (.cells #[.int .i64 (tx : Int), .int .i64 (ty : Int), .int .i64 11, .int .i64 (tdk : Int), .int .i64 (tn : Int), .bool false, .slice none 0 0, .string ts, .slice none 0 0, .slice none 0 0, .int .i64 (ter : Int)] 50)
  have hne : ¬ (w.heap.size = w4.heap.size) := by have := Nat.lt_of_lt_of_le (Nat.lt_succ_self w.heap.size) (Nat.le_of_lt H5.out.2.2.lt); omega
  have hne' : ¬ (w4.heap.size = w.heap.size) := fun e => hne e.symm
  generalize w4.alloc (.cells #[.int .i64 (tx : Int), .int .i64 (ty : Int), .int .i64 11, .int .i64 (tdk : Int), .int .i64 (tn : Int), .bool false, .slice none 0 0, .string ts, .slice none 0 0, .slice none 0 0, .int .i64 (ter : Int)] 50) = W5 at *
  obtain ⟨m0, m1, m2, m3, m4, m5, m6, m7, m8, m9, m10⟩ := cells11 gp
  clear gp
  go_region
  go_wp2_with fail
  obtain ⟨g5, u5, h4⟩ := H5.out
  obtain ⟨q1, q2⟩ := sto7k g5 (.int .i64 0) (.int .i64 0) (.bool false) (.slice none 0 0) (.string ⟨#[]⟩) (.slice none 0 0) (.slice none 0 0)
  clear f0 f1 f2 f3 f4 f5 f6 d0 d1 d2 d3 d4 d5 d6 m0 m1 m2 m3 m4 m5 m6 m7 m8 m9 m10
  generalize (((((((W5.setCell ⟨w.heap.size, 0, none⟩ (.int .i64 0)).setCell ⟨w.heap.size, 1, none⟩ (.int .i64 0)).setCell ⟨w.heap.size, 2, none⟩ (.bool false)).setCell ⟨w.heap.size, 3, none⟩ (.slice none 0 0)).setCell ⟨w.heap.size, 4, none⟩ (.string ⟨#[]⟩)).setCell ⟨w.heap.size, 5, none⟩ (.slice none 0 0)).setCell ⟨w.heap.size, 6, none⟩ (.slice none 0 0)) = W6 at *
  obtain ⟨d0, d1, d2, d3, d4, d5, d6⟩ := cells7 q1
  refine bodyPost_ret (by simp [results, Tryd.results7, go_sem, d0, d1, d2, d3, d4, d5, d6]; rfl) rfl ?_
  exact ⟨rfl, (q2.up (h4.up.tr u5) (Nat.le_refl _)).tr (up_drew _)⟩

/-- What One comes to, from a place of the text on. -/
def OnePost (w : World) {h : Nat} (R : RD h) (e : Ending) (w' : World) : Prop :=
  Up w w' ∧ match R with
    | .inl q => e = .returned (.tuple #[.agg #[.int .i64 0, .int .i64 0, .bool false, .slice none 0 0, .string ⟨#[]⟩, .slice none 0 0, .slice none 0 0], .int .i64 (q.x : Int), .int .i64 (q.er : Int)])
    | .inr (_, y, tr, _) => ∃ (k n : Int) (b : Bool) (m1 : Option Addr) (m2 m3 : Nat) (s : ByteArray) (i1 : Option Addr) (i2 i3 : Nat) (r1 : Option Addr) (r2 r3 : Nat), e = .returned (.tuple #[.agg #[.int .i64 k, .int .i64 n, .bool b, .slice m1 m2 m3, .string s, .slice i1 i2 i3, .slice r1 r2 r3], .int .i64 (y : Int), .int .i64 0]) ∧ DatQ (fun g => w.heap.size ≤ g) w' h tr [.int .i64 k, .int .i64 n, .bool b, .slice m1 m2 m3, .string s, .slice i1 i2 i3, .slice r1 r2 r3]
theorem one_walk (t : ByteArray) (a h : Nat) (q : LP) (R : RD (h + 1)) (w : World) (ht : t.size ≤ 65536) (ha : a ≤ t.size) (hR : RDok t.size q.a R)
    (hN : ∀ W, RS w (w.heap.size + 1) t a 0 W → Calls Tryd.prog 14 #[.pointer (some ⟨w.heap.size + 1, 0, none⟩)] W fun e w' => e = .returned (pcP q) ∧ RS w (w.heap.size + 1) t q.a 0 w' ∧ Kr (w.heap.size + 1) W w')
    (hD : ∀ W, RS w (w.heap.size + 1) t q.a 0 W → Calls Tryd.prog 13 #[.pointer (some ⟨w.heap.size + 1, 0, none⟩), pcP q] W fun e w' => DPost w (w.heap.size + 1) t 0 W R e w') :
    Calls Tryd.prog 7 #[.string t, .int .i64 (a : Int)] w fun e w' => OnePost w R e w' := by
  match R, hR, hD with
  | .inl q', hq, hD =>
    obtain ⟨tx, ty, tk, tdk, tn, ts, ter, ta⟩ := q'
    have hq : tk = 11 := hq
    subst hq
    exact (one_wrong (h + 1) t a q tx ty tdk tn ter ta ts w ht ha hN hD).mono fun e w' h => ⟨h.2, h.1⟩
  | .inr (x, y, tr, a2), _, hD =>
    refine (one_good t a q x y a2 (h + 1) tr w ht ha hN hD).mono ?_
    rintro e w' ⟨k, n, b, m1, m2, m3, s, i1, i2, i3, r1, r2, r3, h1, h2, h3⟩
    exact ⟨h3, k, n, b, m1, m2, m3, s, i1, i2, i3, r1, r2, r3, h1, h2⟩

end Go.Proofs.YteipogfolnlblaaDoor
