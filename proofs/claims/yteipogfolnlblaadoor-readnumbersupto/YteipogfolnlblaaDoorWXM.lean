/-
  What is proved here: package read's longName and abbreviation.
-/
import Derived.Test.YteipogfolnlblaaDoorWXL
namespace Go.Proofs.YteipogfolnlblaaDoor
open Go Go.RowKit
set_option maxRecDepth 100000 in
theorem longName_any (r : ByteArray) (w : World) :
    Calls Tryd.prog 72 #[.string r] w fun e w' => e = .returned (.string (longN r.data.toList)) ∧ w' = w := by
  have hlist : r.toList = r.data.toList := ByteArray.toList_eq r
  unfold longN
  by_cases b1 : r.data.toList = [39]
  · rw [if_pos b1]
    have q1 : (r.toList == [39]) = true := by rw [hlist, b1]; rfl
    clear hlist b1
    go_enter Tryd.func72, Tryd.ntmps72
    go_wp2_with fail
    go_ret
    exact ⟨rfl, rfl⟩
  rw [if_neg b1]
  have q1 : (r.toList == [39]) = false := by rw [hlist]; exact beq_eq_false_iff_ne.2 b1
  by_cases b2 : r.data.toList = [96]
  · rw [if_pos b2]
    have q2 : (r.toList == [96]) = true := by rw [hlist, b2]; rfl
    clear hlist b1 b2
    go_enter Tryd.func72, Tryd.ntmps72
    go_wp2_with fail
    go_ret
    exact ⟨rfl, rfl⟩
  rw [if_neg b2]
  have q2 : (r.toList == [96]) = false := by rw [hlist]; exact beq_eq_false_iff_ne.2 b2
  by_cases b3 : r.data.toList = [44]
  · rw [if_pos b3]
    have q3 : (r.toList == [44]) = true := by rw [hlist, b3]; rfl
    clear hlist b1 b2 b3
    go_enter Tryd.func72, Tryd.ntmps72
    go_wp2_with fail
    go_ret
    exact ⟨rfl, rfl⟩
  rw [if_neg b3]
  have q3 : (r.toList == [44]) = false := by rw [hlist]; exact beq_eq_false_iff_ne.2 b3
  clear hlist b1 b2 b3
  go_enter Tryd.func72, Tryd.ntmps72
  go_wp2_with fail
  go_ret
  exact ⟨rfl, rfl⟩

def abR (T : List UInt8) {h : Nat} (x y : Nat) (R : RD (h + 1)) : RD (h + 2) :=
  match R with
  | .inl q => .inl q
  | .inr (_, y2, tr, a2) => .inr (x, y2, (seqT 6 [lfT h ⟨5, 0, false, [], longN (cutL T x y)⟩, tr] []), a2)

theorem fourteen {w : World} {B : Nat} {c0 c1 c2 c3 c4 c5 c6 e0 e1 e2 e3 e4 e5 e6 : Value} {E : TypeId} {Q : Nat → Prop} {h : Nat} {I0 I1 : Tr h} (hb : w.heap[B]? = some (.cells #[c0, c1, c2, c3, c4, c5, c6, e0, e1, e2, e3, e4, e5, e6] E (0, 0))) (h0 : DatQ Q w h I0 [c0, c1, c2, c3, c4, c5, c6]) (h1 : DatQ Q w h I1 [e0, e1, e2, e3, e4, e5, e6]) : RowD w (DatQ Q w h) (.slice (some ⟨B, 0, none⟩) 2 2) [I0, I1] := by
  refine ⟨some ⟨B, 0, none⟩, 2, rfl, by simp, by decide, .inr ⟨B, 0, rfl, fun i hi => ?_⟩⟩
  match i, hi with
  | 0, _ => exact ⟨_, rfl, fun j hj => by rw [cell_of_row _ _ _ _ _ _ hb]; match j, hj with | 0, _ | 1, _ | 2, _ | 3, _ | 4, _ | 5, _ | 6, _ => rfl, h0⟩
  | 1, _ => exact ⟨_, rfl, fun j hj => by rw [cell_of_row _ _ _ _ _ _ hb]; match j, hj with | 0, _ | 1, _ | 2, _ | 3, _ | 4, _ | 5, _ | 6, _ => rfl, h1⟩

set_option maxHeartbeats 16000000 in
set_option maxRecDepth 100000 in
theorem abbr_c (w0 : World) (rb : Nat) (t : ByteArray) (h x y k a d : Nat) (q : LP) (R : RD (h + 1)) (w : World) (hs : RS w0 rb t a d w) (hxy : x ≤ y) (hy : y ≤ t.size) (hrd0 : ∀ q, R = .inl q → q.k = 11)
    (hn : ∀ W, RS w0 rb t a d W → Calls Tryd.prog 14 #[.pointer (some ⟨rb, 0, none⟩)] W fun e w' => e = .returned (pcP q) ∧ RS w0 rb t q.a d w' ∧ Kr rb W w')
    (hd : ∀ W, RS w0 rb t q.a d W → Calls Tryd.prog 13 #[.pointer (some ⟨rb, 0, none⟩), pcP q] W fun e w' => DPost w0 rb t d W R e w') :
    Calls Tryd.prog 52 #[.pointer (some ⟨rb, 0, none⟩), pc0 x (y : Int) k] w fun e w' => DPost w0 rb t d w (abR t.data.toList x y R) e w' := by
  have u1 := up_alloc w (.cells #[.int .i64 x, .int .i64 (y : Int), .int .i64 (k : Int), .int .i64 0, .int .i64 0, .bool false, .slice none 0 0, .string ⟨#[]⟩, .slice none 0 0, .slice none 0 0, .int .i64 0] 50)
  have g1 := heap_alloc_new w (.cells #[.int .i64 x, .int .i64 (y : Int), .int .i64 (k : Int), .int .i64 0, .int .i64 0, .bool false, .slice none 0 0, .string ⟨#[]⟩, .slice none 0 0, .slice none 0 0, .int .i64 0] 50)
  have z1 : (w.alloc (.cells #[.int .i64 x, .int .i64 (y : Int), .int .i64 (k : Int), .int .i64 0, .int .i64 0, .bool false, .slice none 0 0, .string ⟨#[]⟩, .slice none 0 0, .slice none 0 0, .int .i64 0] 50)).heap.size = w.heap.size + 1 := World.size_alloc _ _
  obtain ⟨W1, hW1⟩ : ∃ W1, W1 = w.alloc (.cells #[.int .i64 x, .int .i64 (y : Int), .int .i64 (k : Int), .int .i64 0, .int .i64 0, .bool false, .slice none 0 0, .string ⟨#[]⟩, .slice none 0 0, .slice none 0 0, .int .i64 0] 50) := ⟨_, rfl⟩
  rw [← hW1] at u1 g1 z1
  have u2 := up_alloc W1 zer11
  have z2 : (W1.alloc zer11).heap.size = w.heap.size + 2 := by rw [World.size_alloc, z1]
  have g2 : (W1.alloc zer11).heap[w.heap.size + 1]? = some zer11 := by rw [← z1]; exact heap_alloc_new W1 zer11
  have g1' := u2.old g1
  have uB := u1.tr u2
  have hlt : rb < w.heap.size := hs.lt
  have hsz : w0.heap.size ≤ w.heap.size := hs.up.size
  have hA := hs.more5 uB
  obtain ⟨m0, m1, m2, m3, m4, m5, m6, m7, m8, m9, m10⟩ := cells11 g1'
  have KN := hn _ hA
  have HN := hide KN
  have HD := hide hd
  have hcut := ext_cut t x y
  have HB := hide (fun (W : World) (a' : Nat) (hW : RS w0 rb t a' d W) => bytes_any w0 rb t a' d x y k W hW hxy hy)
  have HG := hide (And.intro g1' (And.intro g2 (And.intro uB (And.intro hlt (And.intro hsz (And.intro z2 hA))))))
  rw [hW1] at HN HG
  unfold zer11 at HN HG
  clear u1 g1 z1 u2 g2 g1' uB z2 hs hA hlt hsz hn hd KN hxy hy m0 m1 m2 m3 m4 m5 m6 m7 m8 m9 m10
  clear hW1 W1
  unfold pcP pcV at HN
  revert HD hrd0
  match R with
  | .inl q' =>
    intro hrd0 HD
    have hrd : q'.k = 11 := hrd0 q' rfl
    obtain ⟨qx, qy, qk, qdk, qn, qs, qer, qa⟩ := q'
    have hq11 : qk = 11 := hrd
    subst hq11
    clear hrd hrd0 hcut HB
    show Calls _ _ _ _ (fun e w' => DPost w0 rb t d w ((.inl ⟨qx, qy, 11, qdk, qn, qs, qer, qa⟩ : RD (h + 2))) e w')
    unfold DPost pcP pcV at HD
    unfold pc0 pcV
    go_enter Tryd.func52, Tryd.ntmps52
    go_wp2_with (first
      | (go_at_call 14; refine HN.out.mono ?_; rintro e w3 ⟨rfl, h3, k3⟩; have H3 := hide h3; have HK3 := hide k3; clear h3 k3)
      | (go_at_call 13; refine (HD.out _ H3.out).mono ?_; rintro e w4 ⟨k4, rfl, -, h4⟩; have u5 := up_alloc w4 (.cells #[.int .i64 (qx : Int), .int .i64 (qy : Int), .int .i64 11, .int .i64 (qdk : Int), .int .i64 (qn : Int), .bool false, .slice none 0 0, .string qs, .slice none 0 0, .slice none 0 0, .int .i64 (qer : Int)] 50); have g5 := u5.old ((HK3.out.tr k4).old (by have := HG.out.2.2.2.1; omega) HG.out.2.1); obtain ⟨f0, f1, f2, f3, f4, f5, f6, f7, f8, f9, f10⟩ := frozen11 g5; obtain ⟨d0, d1, d2, d3, d4, d5, d6, d7, d8, d9, d10⟩ := cells11 g5; have H5 := hide (And.intro g5 (And.intro (h4.more5 u5) ((HK3.out.tr k4).tr (Kr.of_up u5)))); clear g5 h4 k4 u5))
    obtain ⟨g5, h5, k5⟩ := H5.out
    obtain ⟨q1, q2⟩ := sto11 g5 (.int .i64 (qx : Int)) (.int .i64 (qy : Int)) (.int .i64 11) (.int .i64 (qdk : Int)) (.int .i64 (qn : Int)) (.bool false) (.slice none 0 0) (.string qs) (.slice none 0 0) (.slice none 0 0) (.int .i64 (qer : Int))
    clear f0 f1 f2 f3 f4 f5 f6 f7 f8 f9 f10 d0 d1 d2 d3 d4 d5 d6 d7 d8 d9 d10
    generalize w4.alloc (.cells #[.int .i64 (qx : Int), .int .i64 (qy : Int), .int .i64 11, .int .i64 (qdk : Int), .int .i64 (qn : Int), .bool false, .slice none 0 0, .string qs, .slice none 0 0, .slice none 0 0, .int .i64 (qer : Int)] 50) = W5 at *
    generalize (((((((((((W5.setCell ⟨(w.heap.size + 1), 0, none⟩ (.int .i64 (qx : Int))).setCell ⟨(w.heap.size + 1), 1, none⟩ (.int .i64 (qy : Int))).setCell ⟨(w.heap.size + 1), 2, none⟩ (.int .i64 11)).setCell ⟨(w.heap.size + 1), 3, none⟩ (.int .i64 (qdk : Int))).setCell ⟨(w.heap.size + 1), 4, none⟩ (.int .i64 (qn : Int))).setCell ⟨(w.heap.size + 1), 5, none⟩ (.bool false)).setCell ⟨(w.heap.size + 1), 6, none⟩ (.slice none 0 0)).setCell ⟨(w.heap.size + 1), 7, none⟩ (.string qs)).setCell ⟨(w.heap.size + 1), 8, none⟩ (.slice none 0 0)).setCell ⟨(w.heap.size + 1), 9, none⟩ (.slice none 0 0)).setCell ⟨(w.heap.size + 1), 10, none⟩ (.int .i64 (qer : Int))) = W8 at *
    obtain ⟨d0, d1, d2, d3, d4, d5, d6, d7, d8, d9, d10⟩ := cells11 q1
    refine bodyPost_ret (by simp [results, Tryd.results52, go_sem, d0, d1, d2, d3, d4, d5, d6, d7, d8, d9, d10]; rfl) rfl ?_
    obtain ⟨-, -, uB, hlt, hsz, z2, -⟩ := HG.out
    exact ⟨Kr.join uB k5 q2 (by omega), by simp [pcP, pcV], rfl, ⟨q2.up h5.up (by omega), h5.ge, q2.old (by omega) h5.cs⟩⟩
  | .inr (x2, y2, tr, a2) =>
    intro hrd0 HD
    clear hrd0
    unfold DPost pcP pcV at HD
    show Calls _ _ _ _ (fun e w' => DPost w0 rb t d w ((.inr (x, y2, (seqT 6 [lfT h ⟨5, 0, false, [], longN (cutL t.data.toList x y)⟩, tr] []), a2) : RD _)) e w')
    rw [← hcut]
    clear hcut
    unfold pc0 pcV at HB
    unfold pc0 pcV
    generalize t.extract x y = r at *
    have HLN := hide (fun (W : World) => longName_any r W)
    have HM := hide (fun (W : World) (v1 : Option Addr) (v2 v3 : Nat) => made_any x y2 6 0 false ⟨#[]⟩ none v1 none 0 0 v2 v3 0 0 W)
    unfold pcV at HM
    go_enter Tryd.func52, Tryd.ntmps52
    go_wp2_with (first
      | (go_at_call 14; refine HN.out.mono ?_; rintro e w3 ⟨rfl, h3, k3⟩; have H3 := hide h3; have HK3 := hide k3; clear h3 k3)
      | (go_at_call 13; refine (HD.out _ H3.out).mono ?_; rintro e w4 ⟨k4, ck, cn, cb, j1, j2, j3, cs, i1, i2, i3, r1, r2, r3, rfl, hq4, h4⟩; have u5 := up_alloc w4 (.cells #[.int .i64 (x2 : Int), .int .i64 (y2 : Int), .int .i64 10, .int .i64 ck, .int .i64 cn, .bool cb, .slice j1 j2 j3, .string cs, .slice i1 i2 i3, .slice r1 r2 r3, .int .i64 0] 50); have K5 := (HK3.out.tr k4).tr (Kr.of_up u5); have b5 := K5.old (by have := HG.out.2.2.2.1; omega) HG.out.1; obtain ⟨m0, m1, m2, m3, m4, m5, m6, m7, m8, m9, m10⟩ := cells11 b5; have H5 := hide (And.intro (h4.more5 u5) (And.intro K5 (And.intro hq4 (heap_alloc_new w4 (.cells #[.int .i64 (x2 : Int), .int .i64 (y2 : Int), .int .i64 10, .int .i64 ck, .int .i64 cn, .bool cb, .slice j1 j2 j3, .string cs, .slice i1 i2 i3, .slice r1 r2 r3, .int .i64 0] 50))))); have HL4 := hide (And.intro HK3.out.1.size (And.intro k4 u5)); clear h4 k4 u5 hq4 K5 b5)
      | (go_at_call 38; refine (HB.out _ _ H5.out.1).mono ?_; rintro e w6 ⟨rfl, u6⟩; have HU6 := hide u6; clear u6 m0 m1 m2 m3 m4 m5 m6 m7 m8 m9 m10)
      | (go_at_call 72; refine (HLN.out _).mono ?_; rintro e w6' ⟨rfl, hw6⟩; replace hw6 := hw6.symm; subst hw6; have u7 := HU6.out.tr (up_alloc w6 (.cells #[.int .i64 5, .int .i64 0, .bool false, .slice none 0 0, .string (longN r.data.toList), .slice none 0 0, .slice none 0 0] 31)); have b7 := (H5.out.2.1.tr (Kr.of_up u7)).old (by have := HG.out.2.2.2.1; omega) HG.out.1; have pb := u7.old H5.out.2.2.2; obtain ⟨m0, m1, m2, m3, m4, m5, m6, m7, m8, m9, m10⟩ := cells11 b7; obtain ⟨p0, p1, p2, p3, p4, p5, p6, p7, p8, p9, p10⟩ := cells11 pb; have HU7 := hide u7; clear u7 b7 pb)
      | (go_at_call 35; refine (HM.out _ _ _ _).mono ?_; rintro e w9 ⟨rfl, u9⟩; clear m0 m1 m2 m3 m4 m5 m6 m7 m8 m9 m10 p0 p1 p2 p3 p4 p5 p6 p7 p8 p9 p10; have u8 := HU7.out.tr ((up_alloc (w6.alloc (.cells #[.int .i64 5, .int .i64 0, .bool false, .slice none 0 0, .string (longN r.data.toList), .slice none 0 0, .slice none 0 0] 31)) (.cells #[.int .i64 5, .int .i64 0, .bool false, .slice none 0 0, .string (longN r.data.toList), .slice none 0 0, .slice none 0 0, .int .i64 ck, .int .i64 cn, .bool cb, .slice j1 j2 j3, .string cs, .slice i1 i2 i3, .slice r1 r2 r3] 31)).tr u9); have gB := u9.old (heap_alloc_new (w6.alloc (.cells #[.int .i64 5, .int .i64 0, .bool false, .slice none 0 0, .string (longN r.data.toList), .slice none 0 0, .slice none 0 0] 31)) (.cells #[.int .i64 5, .int .i64 0, .bool false, .slice none 0 0, .string (longN r.data.toList), .slice none 0 0, .slice none 0 0, .int .i64 ck, .int .i64 cn, .bool cb, .slice j1 j2 j3, .string cs, .slice i1 i2 i3, .slice r1 r2 r3] 31)); have g9 := u8.old (H5.out.2.1.old (by have := HG.out.2.2.2.1; omega) HG.out.2.1); obtain ⟨f0, f1, f2, f3, f4, f5, f6, f7, f8, f9, f10⟩ := frozen11 g9; obtain ⟨d0, d1, d2, d3, d4, d5, d6, d7, d8, d9, d10⟩ := cells11 g9; have H9 := hide (And.intro g9 (And.intro u8 gB)); clear u8 u9 gB g9))
    obtain ⟨g9, u8, gB⟩ := H9.out
    obtain ⟨h5, K5, hq4, -⟩ := H5.out
    obtain ⟨s3, k4, u5⟩ := HL4.out
    obtain ⟨q1, q2⟩ := sto11 g9 (.int .i64 (x : Int)) (.int .i64 (y2 : Int)) (.int .i64 10) (.int .i64 6) (.int .i64 0) (.bool false) (.slice none 0 0) (.string ⟨#[]⟩) (.slice (some ⟨w6.heap.size + 1, 0, none⟩) 2 2) (.slice none 0 0) (.int .i64 0)
    clear f0 f1 f2 f3 f4 f5 f6 f7 f8 f9 f10 d0 d1 d2 d3 d4 d5 d6 d7 d8 d9 d10
    generalize (((((((((((w9.setCell ⟨(w.heap.size + 1), 0, none⟩ (.int .i64 (x : Int))).setCell ⟨(w.heap.size + 1), 1, none⟩ (.int .i64 (y2 : Int))).setCell ⟨(w.heap.size + 1), 2, none⟩ (.int .i64 10)).setCell ⟨(w.heap.size + 1), 3, none⟩ (.int .i64 6)).setCell ⟨(w.heap.size + 1), 4, none⟩ (.int .i64 0)).setCell ⟨(w.heap.size + 1), 5, none⟩ (.bool false)).setCell ⟨(w.heap.size + 1), 6, none⟩ (.slice none 0 0)).setCell ⟨(w.heap.size + 1), 7, none⟩ (.string ⟨#[]⟩)).setCell ⟨(w.heap.size + 1), 8, none⟩ (.slice (some ⟨w6.heap.size + 1, 0, none⟩) 2 2)).setCell ⟨(w.heap.size + 1), 9, none⟩ (.slice none 0 0)).setCell ⟨(w.heap.size + 1), 10, none⟩ (.int .i64 0)) = W10 at *
    obtain ⟨d0, d1, d2, d3, d4, d5, d6, d7, d8, d9, d10⟩ := cells11 q1
    refine bodyPost_ret (by simp [results, Tryd.results52, go_sem, d0, d1, d2, d3, d4, d5, d6, d7, d8, d9, d10]; rfl) rfl ?_
    obtain ⟨-, -, uB, hlt, hsz, z2, -⟩ := HG.out
    have h9 := h5.more5 u8
    have z6 : (w6.alloc (.cells #[.int .i64 5, .int .i64 0, .bool false, .slice none 0 0, .string (longN r.data.toList), .slice none 0 0, .slice none 0 0] 31)).heap.size = w6.heap.size + 1 := World.size_alloc _ _
    rw [z6] at gB
    have sz5 := u5.size
    have sz6 := HU6.out.size
    have sz4 := k4.1.size
    refine ⟨Kr.join uB (K5.tr (Kr.of_up u8)) q2 (by omega), 6, 0, false, none, 0, 0, ⟨#[]⟩, some ⟨w6.heap.size + 1, 0, none⟩, 2, 2, none, 0, 0, by simp [pcV], ?_, ⟨q2.up h9.up (by omega), h9.ge, q2.old (by omega) h9.cs⟩⟩
    refine ⟨_, _, _, rfl, by decide, sl_nil _, fun i hi => by simp at hi, fourteen (q2.old (by omega) gB) ?_ ?_, RowD.nil' _ _, .inl rfl, .inr ⟨_, _, _, rfl, by show w.heap.size ≤ w6.heap.size + 1; omega⟩, .inl rfl⟩
    · exact lfT_dat (x := ⟨5, 0, false, [], longN r.data.toList⟩) (by show (-9223372036854775808 : Int) ≤ 0 ∧ (0 : Int) ≤ 9223372036854775807; decide) (sl_nil _) (fun i hi => by simp at hi) (.inl rfl)
    · exact DatQ.keep (fun g hg hq => (q2.2 g (Nat.lt_of_lt_of_le hg (u5.tr u8).size) (by omega)).trans ((u5.tr u8).block g hg)) (fun g _ hq => by omega) hq4

theorem abbr_of (t : ByteArray) (m : Nat) (hN : NextOK t (m + 1)) (hD : DatOK t m) : AbbrOK t (m + 1) := by
  intro w0 rb h x L k f w hs hh hL hx hm hf
  have hl : t.data.toList.length = t.size := bytes_len t
  have ih := rdM_ok t.data.toList f h
  have hn := ih.1 0 (x + L) (by rw [hl]; exact hx)
  have hd := nd_ok ih (a := x + L) (by rw [hl]; exact hx)
  have hab : abM t.data.toList (rdM t.data.toList f h) (tkP x L k) = abR t.data.toList x (x + L) ((rdM t.data.toList f h).dt ((rdM t.data.toList f h).nx 0 (x + L))) := rfl
  rw [hab]
  rw [hl] at hn
  refine abbr_c w0 rb t h x (x + L) k (x + L) (100 - h) _ _ w hs (by omega) hx (fun q e => by have := hd.1; rw [e] at this; exact this) (fun W hW => hN w0 rb h (x + L) f W hW (by omega) hx hm (by omega)) (fun W hW => hD w0 rb h _ f W hW (by omega) hn.1.1 hn.1.2.1 hn.1.2.2 ?_)
  by_cases n0 : nowP ((rdM t.data.toList f h).nx 0 (x + L))
  · exact .inl ⟨n0, by omega⟩
  · have := hn.2 (fun e => n0 (.inr e))
    have := this.2.2 (fun e => n0 (.inl e))
    exact .inr ⟨by omega, by omega⟩

end Go.Proofs.YteipogfolnlblaaDoor
