/-
  What is proved here: package read's row, given next, datum, dotted.
-/
import Derived.Test.YteipogfolnlblaaDoorWXN
namespace Go.Proofs.YteipogfolnlblaaDoor
open Go Go.RowKit
/-- A list or vector under way: its variable is the block B. -/
structure RI (w0 W3 : World) (rb B : Nat) (t : ByteArray) (a d h : Nat) (kk : Int) (I : List (Tr (h + 1))) (v : Value) (xs : List Value) (W : World) : Prop where
  rs : RS w0 rb t a d W
  bl : Below 0 W3 W
  bk : ∀ g, g < W3.heap.size → g ≠ rb → g ≠ B → W.heap[g]? = W3.heap[g]?
  bx : W.heap[B]? = some (.cells #[.int .i64 kk, .int .i64 0, .bool false, .slice none 0 0, .string ⟨#[]⟩, v, .slice none 0 0] 31 (0, 0))
  li : LI W3.heap.size h I v xs W

theorem RI.more {w0 W3 : World} {rb B : Nat} {t : ByteArray} {a a' d h : Nat} {kk : Int} {I : List (Tr (h + 1))} {v : Value} {xs : List Value} {W W' : World} (R : RI w0 W3 rb B t a d h kk I v xs W) (hs : RS w0 rb t a' d W') (k : Kr rb W W') (hb : rb < W3.heap.size) (hB : B ≠ rb) : RI w0 W3 rb B t a' d h kk I v xs W' :=
  ⟨hs, R.bl.trans k.1, fun g hg h1 h2 => (k.2 g (Nat.lt_of_lt_of_le hg R.bl.size) h1).trans (R.bk g hg h1 h2), k.old hB R.bx, R.li.kr k hb⟩

theorem RI.upw {w0 W3 : World} {rb B : Nat} {t : ByteArray} {a d h : Nat} {kk : Int} {I : List (Tr (h + 1))} {v : Value} {xs : List Value} {W W' : World} (R : RI w0 W3 rb B t a d h kk I v xs W) (u : Up W W') (hb : rb < W3.heap.size) (hB : B ≠ rb) : RI w0 W3 rb B t a d h kk I v xs W' :=
  R.more (R.rs.more5 u) (Kr.of_up u) hb hB

theorem RI.old {w0 W3 : World} {rb B : Nat} {t : ByteArray} {a d h : Nat} {kk : Int} {I : List (Tr (h + 1))} {v : Value} {xs : List Value} {W : World} (R : RI w0 W3 rb B t a d h kk I v xs W) {g : Nat} {o : Obj} (h1 : g ≠ rb) (h2 : g ≠ B) (ho : W3.heap[g]? = some o) : W.heap[g]? = some o :=
  (R.bk g (Array.getElem?_eq_some_iff.1 ho).1 h1 h2).trans ho

/-- What the whole has turned, as the caller sees it. -/
theorem RI.kr {w0 w W3 : World} {rb B : Nat} {t : ByteArray} {a d h : Nat} {kk : Int} {I : List (Tr (h + 1))} {v : Value} {xs : List Value} {W W' : World} {g : Nat} (R : RI w0 W3 rb B t a d h kk I v xs W) (u : Up w W3) (q : Kr g W W') (hB : w.heap.size ≤ B) (hg : w.heap.size ≤ g) : Kr rb w W' :=
  ⟨((Below.mono u (Nat.zero_le _)).trans R.bl).trans q.1, fun k hk hne => (q.2 k (Nat.lt_of_lt_of_le hk (Nat.le_trans u.size R.bl.size)) (by omega)).trans ((R.bk k (Nat.lt_of_lt_of_le hk u.size) hne (by omega)).trans (u.block k hk))⟩

theorem RI.krl {w0 w W3 : World} {rb B lo : Nat} {t : ByteArray} {a d h : Nat} {kk : Int} {I : List (Tr (h + 1))} {v : Value} {xs : List Value} {W W6 W' : World} {g : Nat} (R : RI w0 W3 rb B t a d h kk I v xs W) (u : Up w W3) (kl : Kl rb lo W W6) (hlo : w.heap.size ≤ lo) (q : Kr g W6 W') (hB : w.heap.size ≤ B) (hg : w.heap.size ≤ g) : Kr rb w W' := by
  have s1 := Nat.le_trans u.size R.bl.size
  exact ⟨(((Below.mono u (Nat.zero_le _)).trans R.bl).trans kl.1).trans q.1, fun k hk hne => (q.2 k (Nat.lt_of_lt_of_le hk (Nat.le_trans s1 kl.1.size)) (by omega)).trans ((kl.2 k (by omega) (by omega) hne).trans ((R.bk k (Nat.lt_of_lt_of_le hk u.size) hne (by omega)).trans (u.block k hk)))⟩

theorem hcellsG (w : World) (g : Nat) (hg : g = w.heap.size) (c0 c1 c2 c3 c4 c5 c6 : Value) (E : TypeId) : ∀ j u, [c0, c1, c2, c3, c4, c5, c6][j]? = some u → (w.alloc (.cells #[c0, c1, c2, c3, c4, c5, c6] E)).cell? ((⟨g, 0, none⟩ : Addr).add j) = some u := by
  subst hg
  exact hcellsR w c0 c1 c2 c3 c4 c5 c6 E

theorem RI.snoc {w0 W3 : World} {rb B : Nat} {t : ByteArray} {a a2 d h : Nat} {kk : Int} {I : List (Tr (h + 1))} {v : Value} {xs : List Value} {wr w2 w9 : World} {tr : Tr (h + 1)} {d0 d1 d2 d3 d4 d5 d6 : Value} {o : Obj} {g cap : Nat} (R : RI w0 W3 rb B t a d h kk I v xs wr) (hs : RS w0 rb t a2 d w2) (k : Kr rb wr w2) (hlt : rb < W3.heap.size) (hBl : B < W3.heap.size) (hB : B ≠ rb) (_h03 : w0.heap.size ≤ W3.heap.size) (hd : DatQ (fun b => wr.heap.size ≤ b) w2 (h + 1) tr [d0, d1, d2, d3, d4, d5, d6])
    (hown : w9.ownsRow W3.heap.size 31 7 (.slice (some ⟨g, 0, none⟩) (I.length + 1) cap) (I.length + 1) (xs ++ [d0, d1, d2, d3, d4, d5, d6])) (hgrow : (w2.alloc o).grownBy w9 v.ownBlock) (hat : v.ownBlock = some g ∨ g = w2.heap.size + 1) (h0B : w0.heap.size ≤ B) :
    w9.heap[B]? = some (.cells #[.int .i64 kk, .int .i64 0, .bool false, .slice none 0 0, .string ⟨#[]⟩, v, .slice none 0 0] 31 (0, 0)) ∧ RI w0 W3 rb B t a2 d h kk (I ++ [tr]) (.slice (some ⟨g, 0, none⟩) (I.length + 1) cap) (xs ++ [d0, d1, d2, d3, d4, d5, d6]) (w9.setCell ⟨B, 5, none⟩ (.slice (some ⟨g, 0, none⟩) (I.length + 1) cap)) := by
  have own := R.li.own
  have vge : ∀ b, v.ownBlock = some b → W3.heap.size ≤ b := fun b hb => (own.lt b hb).1
  have sz := R.bl.size
  have uA := up_alloc w2 o
  have low : ∀ b, b < W3.heap.size → w9.heap[b]? = w2.heap[b]? := fun b hb => by
    have hb2 : b < w2.heap.size := by have := k.1.size; omega
    rw [hgrow.block b (by simp; omega) (fun e => by have := vge b e.symm; omega)]
    exact heap_alloc_old _ _ hb2
  have bx9 := (low B hBl).trans (k.old hB R.bx)
  have lt9 : rb < w9.heap.size := by have := hgrow.size; have := k.1.size; simp at *; omega
  have L9 := R.li.snoc sz k.1.size (fun b hb hl => k.2 b hb (by omega)) hd hown hgrow hat
  have K9 : Kr B w9 (w9.setCell ⟨B, 5, none⟩ (.slice (some ⟨g, 0, none⟩) (I.length + 1) cap)) := (Kr.refl B w9).setCell _ _
  have b9 := heap_setCell_same w9 B 5 _ _ (.slice (some ⟨g, 0, none⟩) (I.length + 1) cap) bx9
  have up9 : Up w0 w9 := (hs.up.tr uA).grown hgrow (by simp; have := hs.up.size; omega) (fun b hb => by have := vge b hb; omega)
  have Bl9 : Below 0 W3 w9 := ((R.bl.trans k.1).trans (Below.mono uA (Nat.zero_le _))).grown hgrow (Nat.zero_le _) (fun _ _ => Nat.zero_le _)
  refine ⟨bx9, ⟨K9.up up9 h0B, hs.ge, K9.old (Ne.symm hB) ((low rb hlt).trans hs.cs)⟩, Bl9.trans K9.1, fun b hb h1 h2 => (K9.2 b (Nat.lt_of_lt_of_le hb Bl9.size) h2).trans ((low b hb).trans ((k.2 b (by omega) h1).trans (R.bk b hb h1 h2))), ?_, L9.kr K9 hBl⟩
  rw [b9]; simp

set_option maxHeartbeats 32000000 in
set_option maxRecDepth 100000 in
theorem row_of (t : ByteArray) (m : Nat) (ht : t.size ≤ 100000000) (hN : NextOK t (m + 1)) (hD : DatOK t m) (hT : DotOK t m) : RowOK t (m + 1) := by
  intro w0 rb h x y k a f kk w hs hh ha hm hf hkk
  have hl : t.data.toList.length = t.size := bytes_len t
  obtain ⟨R, hR⟩ : ∃ R, R = (rdM t.data.toList f h).rw x kk [] a := ⟨_, rfl⟩
  rw [← hR]
  obtain ⟨iD, hiD, hz0, hz1, hz2⟩ := info_parts infoDr
  have u1 := up_alloc w (.cells #[.int .i64 x, .int .i64 (y : Int), .int .i64 (k : Int), .int .i64 0, .int .i64 0, .bool false, .slice none 0 0, .string ⟨#[]⟩, .slice none 0 0, .slice none 0 0, .int .i64 0] 50)
  have g1 := heap_alloc_new w (.cells #[.int .i64 x, .int .i64 (y : Int), .int .i64 (k : Int), .int .i64 0, .int .i64 0, .bool false, .slice none 0 0, .string ⟨#[]⟩, .slice none 0 0, .slice none 0 0, .int .i64 0] 50)
  have z1 : (w.alloc (.cells #[.int .i64 x, .int .i64 (y : Int), .int .i64 (k : Int), .int .i64 0, .int .i64 0, .bool false, .slice none 0 0, .string ⟨#[]⟩, .slice none 0 0, .slice none 0 0, .int .i64 0] 50)).heap.size = w.heap.size + 1 := World.size_alloc _ _
  obtain ⟨W1, hW1⟩ : ∃ W1, W1 = w.alloc (.cells #[.int .i64 x, .int .i64 (y : Int), .int .i64 (k : Int), .int .i64 0, .int .i64 0, .bool false, .slice none 0 0, .string ⟨#[]⟩, .slice none 0 0, .slice none 0 0, .int .i64 0] 50) := ⟨_, rfl⟩
  rw [← hW1] at u1 g1 z1
  have u2 := up_alloc W1 zer11
  have z2 : (W1.alloc zer11).heap.size = w.heap.size + 2 := by rw [World.size_alloc, z1]
  have g2 : (W1.alloc zer11).heap[w.heap.size + 1]? = some zer11 := by rw [← z1]; exact heap_alloc_new W1 zer11
  have g1' := u2.old g1
  have uB := u1.tr u2
  have hlt : rb < w.heap.size := hs.lt
  have hsz : w0.heap.size ≤ w.heap.size := hs.up.size
  have hA := hs.more5 uB
  obtain ⟨m0, m1, m2, m3, m4, m5, m6, m7, m8, m9, m10⟩ := cells11 g1'
  have u3 := up_alloc (W1.alloc zer11) (.cells #[.int .i64 kk, .int .i64 0, .bool false, .slice none 0 0, .string ⟨#[]⟩, .slice none 0 0, .slice none 0 0] 31)
  have g3 : ((W1.alloc zer11).alloc (.cells #[.int .i64 kk, .int .i64 0, .bool false, .slice none 0 0, .string ⟨#[]⟩, .slice none 0 0, .slice none 0 0] 31)).heap[w.heap.size + 2]? = some (.cells #[.int .i64 kk, .int .i64 0, .bool false, .slice none 0 0, .string ⟨#[]⟩, .slice none 0 0, .slice none 0 0] 31) := by rw [← z2]; exact heap_alloc_new _ _
  have z3 : ((W1.alloc zer11).alloc (.cells #[.int .i64 kk, .int .i64 0, .bool false, .slice none 0 0, .string ⟨#[]⟩, .slice none 0 0, .slice none 0 0] 31)).heap.size = w.heap.size + 3 := by rw [World.size_alloc, z2]
  obtain ⟨W3, hW3⟩ : ∃ W3, W3 = (W1.alloc zer11).alloc (.cells #[.int .i64 kk, .int .i64 0, .bool false, .slice none 0 0, .string ⟨#[]⟩, .slice none 0 0, .slice none 0 0] 31) := ⟨_, rfl⟩
  rw [← hW3] at u3 g3 z3
  have b1 := u3.old g1'
  have b2 := u3.old g2
  have uC := uB.tr u3
  have hlt3 : rb < W3.heap.size := by omega
  have hI0 : RI w0 W3 rb (w.heap.size + 2) t a (100 - h) h kk [] (.slice none 0 0) [] W3 := ⟨hs.more5 uC, Below.refl _ _, fun _ _ _ _ => rfl, g3, LI.nil _ _ _⟩
  have HI0 := hide (And.intro hI0 (And.intro ha (And.intro hf hR)))
  have HG := hide (And.intro b1 (And.intro b2 (And.intro uC (And.intro hsz z3))))
  have HW := hide (show W3 = ((w.alloc (.cells #[.int .i64 x, .int .i64 (y : Int), .int .i64 (k : Int), .int .i64 0, .int .i64 0, .bool false, .slice none 0 0, .string ⟨#[]⟩, .slice none 0 0, .slice none 0 0, .int .i64 0] 50)).alloc zer11).alloc (.cells #[.int .i64 kk, .int .i64 0, .bool false, .slice none 0 0, .string ⟨#[]⟩, .slice none 0 0, .slice none 0 0] 31) from by rw [hW3, hW1])
  unfold zer11 at HG HW
  have HN := hide hN
  have HD := hide hD
  have HT := hide hT
  have HM := hide hm
  have hne2 : w.heap.size + 2 ≠ rb := by omega
  have kkR : (-9223372036854775808 : Int) ≤ kk ∧ kk ≤ 9223372036854775807 := by rcases hkk with h | h <;> rw [h] <;> decide
  clear u1 g1 z1 u2 g2 g1' uB z2 u3 g3 z3 b1 b2 uC hs hA hsz hI0 ha hf hm hR hN hD hT hW3 m0 m1 m2 m3 m4 m5 m6 m7 m8 m9 m10
  clear hW1 W1
  unfold pc0 pcV
  go_enter Tryd.func51, Tryd.ntmps51
  go_wp2_with fail
  rw [← HW.out]
  go_loopw [8] (fun _ wr => ∃ (A f : Nat) (I : List (Tr (h + 1))) (v : Value) (xs : List Value), RI w0 W3 rb (w.heap.size + 2) t A (100 - h) h kk I v xs wr ∧ A ≤ t.size ∧ a ≤ A ∧ I.length ≤ A ∧ 3 * (t.size - A) + 3 ≤ f ∧ R = (rdM t.data.toList f h).rw x kk I A) (fun _ wr => t.size - atR wr rb)
  case atStart =>
    obtain ⟨hI0, ha, hf, hR⟩ := HI0.out
    exact ⟨a, f, [], _, [], hI0, ha, Nat.le_refl _, Nat.zero_le _, hf, hR⟩
  case round =>
    obtain ⟨A, f, I, v, xs, hI, hA, haA, hIl, hf, hR⟩ := hrel
    obtain ⟨f, rfl⟩ : ∃ f', f = f' + 1 := ⟨f - 1, by omega⟩
    replace hR : R = rwS (rdM t.data.toList f h) x kk I A := hR
    unfold rwS at hR
    have ih := rdM_ok t.data.toList f h
    have hn := ih.1 0 A (by rw [hl]; exact hA)
    have hnd := nd_ok ih (a := A) (by rw [hl]; exact hA)
    rw [hl] at hn
    have KN := HN.out w0 rb h A f wr hI.rs (by omega) hA (by have := HM.out; omega) (by omega)
    have hpre : (nowP ((rdM t.data.toList f h).nx 0 A) ∧ 1 ≤ f) ∨ (t.size - ((rdM t.data.toList f h).nx 0 A).a < m ∧ 3 * (t.size - ((rdM t.data.toList f h).nx 0 A).a) + 4 ≤ f) := by
      by_cases n0 : nowP ((rdM t.data.toList f h).nx 0 A)
      · exact .inl ⟨n0, by omega⟩
      · have h1 := hn.2 (fun e => n0 (.inr e))
        have h2 := h1.2.2 (fun e => n0 (.inl e))
        have := HM.out
        exact .inr ⟨by omega, by omega⟩
    have KD := fun (W : World) (hW : RS w0 rb t ((rdM t.data.toList f h).nx 0 A).a (100 - h) W) => HD.out w0 rb h _ f W hW (by omega) hn.1.1 hn.1.2.1 hn.1.2.2 hpre
    obtain ⟨ao, cap, rfl⟩ := hI.li.shape
    have HAT := hide hI.rs.at
    have HI := hide hI
    have HF := hide hf
    generalize hq : (rdM t.data.toList f h).nx 0 A = q at *
    have hlt4 : q.k ≠ 0 → q.k ≠ 11 → A < q.a ∧ q.a ≤ t.size := fun e0 e1 => ⟨(hn.2 e1).2.2 e0, (hn.2 e1).2.1⟩
    have HL := hide hlt4
    have HPK := hide hn.1
    have lI : (I.length : Int) ≤ 100000000 := by omega
    clear hI hf hpre hlt4 hn
    by_cases c4 : q.k = 4
    · rw [if_pos c4] at hR
      subst hR
      obtain ⟨qx, qy, qk, qdk, qn, qs, qer, qa⟩ := q
      have c4 : qk = 4 := c4
      subst c4
      clear KD hq hnd
      have HM2 := hide (fun (W : World) => made_any x qy kk 0 false ⟨#[]⟩ none ao none 0 0 I.length cap 0 0 W)
      unfold pcP pcV at KN
      unfold pcV at HM2
      have HKN := hide KN
      clear KN
      go_wp2_with (first
        | (go_at_call 14; refine HKN.out.mono ?_; rintro e w4 ⟨rfl, h4, k4⟩; have u5 := up_alloc w4 (.cells #[.int .i64 (qx : Int), .int .i64 (qy : Int), .int .i64 4, .int .i64 (qdk : Int), .int .i64 (qn : Int), .bool false, .slice none 0 0, .string qs, .slice none 0 0, .slice none 0 0, .int .i64 (qer : Int)] 50); have r5 := (HI.out.more h4 k4 hlt3 hne2).upw u5 hlt3 hne2; have b5 := r5.old (by omega) (by omega) HG.out.1; obtain ⟨m0, m1, m2, m3, m4, m5, m6, m7, m8, m9, m10⟩ := cells11 b5; obtain ⟨o0, o1, o2, o3, o4, o5, o6⟩ := cells7 r5.bx; have H5 := hide r5; clear h4 k4 u5 r5 b5)
        | (go_at_call 35; refine (HM2.out _).mono ?_; rintro e w6 ⟨rfl, u6⟩; clear m0 m1 m2 m3 m4 m5 m6 m7 m8 m9 m10 o0 o1 o2 o3 o4 o5 o6; have r6 := H5.out.upw u6 hlt3 hne2; have g6 := r6.old (by omega) (by omega) HG.out.2.1; obtain ⟨f0, f1, f2, f3, f4, f5, f6, f7, f8, f9, f10⟩ := frozen11 g6; obtain ⟨d0, d1, d2, d3, d4, d5, d6, d7, d8, d9, d10⟩ := cells11 g6; have H6 := hide (And.intro r6 g6); clear u6 r6 g6))
      obtain ⟨r6, g6⟩ := H6.out
      obtain ⟨q1, q2⟩ := sto11 g6 (.int .i64 (x : Int)) (.int .i64 (qy : Int)) (.int .i64 10) (.int .i64 kk) (.int .i64 0) (.bool false) (.slice none 0 0) (.string ⟨#[]⟩) (.slice ao I.length cap) (.slice none 0 0) (.int .i64 0)
      clear f0 f1 f2 f3 f4 f5 f6 f7 f8 f9 f10 d0 d1 d2 d3 d4 d5 d6 d7 d8 d9 d10
      generalize (((((((((((w6.setCell ⟨(w.heap.size + 1), 0, none⟩ (.int .i64 (x : Int))).setCell ⟨(w.heap.size + 1), 1, none⟩ (.int .i64 (qy : Int))).setCell ⟨(w.heap.size + 1), 2, none⟩ (.int .i64 10)).setCell ⟨(w.heap.size + 1), 3, none⟩ (.int .i64 kk)).setCell ⟨(w.heap.size + 1), 4, none⟩ (.int .i64 0)).setCell ⟨(w.heap.size + 1), 5, none⟩ (.bool false)).setCell ⟨(w.heap.size + 1), 6, none⟩ (.slice none 0 0)).setCell ⟨(w.heap.size + 1), 7, none⟩ (.string ⟨#[]⟩)).setCell ⟨(w.heap.size + 1), 8, none⟩ (.slice ao I.length cap)).setCell ⟨(w.heap.size + 1), 9, none⟩ (.slice none 0 0)).setCell ⟨(w.heap.size + 1), 10, none⟩ (.int .i64 0)) = W8 at *
      obtain ⟨d0, d1, d2, d3, d4, d5, d6, d7, d8, d9, d10⟩ := cells11 q1
      refine bodyPost_ret (by simp [results, Tryd.results51, go_sem, d0, d1, d2, d3, d4, d5, d6, d7, d8, d9, d10]; rfl) rfl ?_
      obtain ⟨-, -, uC, hsz, z3⟩ := HG.out
      have li8 := (r6.li.kr q2 (by omega)).fin
      rw [z3] at li8
      refine ⟨r6.kr uC q2 (by omega) (by omega), kk, 0, false, none, 0, 0, ⟨#[]⟩, ao, I.length, cap, none, 0, 0, by simp [pcV], ?_, ⟨q2.up r6.rs.up (by omega), r6.rs.ge, q2.old (by omega) r6.rs.cs⟩⟩
      refine ⟨_, _, _, rfl, by decide, sl_nil _, fun i hi => by simp at hi, ?_, RowD.nil' _ _, .inl rfl, li8.2.mono (fun k hk => by omega), .inl rfl⟩
      exact li8.1.mono (fun _ _ hd => DatQ.keep (fun _ _ _ => rfl) (fun k _ hk => by omega) hd)
    rw [if_neg c4] at hR
    have c4I : ¬ ((q.k : Int) = 4) := by omega
    by_cases c8 : q.k = 8 ∧ kk = 6 ∧ I ≠ []
    · rw [if_pos c8] at hR
      obtain ⟨qx, qy, qk, qdk, qn, qs, qer, qa⟩ := q
      have e8 : qk = 8 := c8.1
      have e6 := c8.2.1
      have hI0 := c8.2.2
      subst e8
      subst e6
      have hl4 := HL.out (by show (8 : Nat) ≠ 0; decide) (by show (8 : Nat) ≠ 11; decide)
      have lI0 : (0 : Int) < (I.length : Int) := by have := List.length_pos_iff.2 hI0; omega
      have KT := fun (W : World) (hW : RS w0 rb t qa (100 - h) W) (hL : LI W3.heap.size h I (.slice ao I.length cap) xs W) (hz : W3.heap.size ≤ W.heap.size) => HT.out w0 rb h x y k qa f W3.heap.size I ao I.length cap xs W hW hh hl4.2 (by have := HM.out; have := hl4.1; have : A < qa := hl4.1; omega) (by have := HF.out; have : A < qa := hl4.1; omega) hlt3 hz (by have := HG.out.2.2.1.size; have := HG.out.2.2.2.1; omega) (by omega) hL
      have hrd : ∀ q', R = .inl q' → q'.k = 11 := fun q' e => by
        have := (rdM_ok t.data.toList (f + 1) h).2.2 x 6 I A (by rw [hl]; exact hA)
        rw [show (rdM t.data.toList (f + 1) h).rw x 6 I A = rwS (rdM t.data.toList f h) x 6 I A from rfl] at this
        unfold rwS at this
        rw [hq, if_neg c4, if_pos c8] at this
        rw [← hR, e] at this
        exact this
      replace hR : R = dotM (rdM t.data.toList f h) x I qa := hR
      rw [← hR] at KT
      clear KD hq hnd hR c4 c8 hI0 hl4 HI0
      unfold pcP pcV at KN
      have HKN := hide KN
      clear KN
      cases R with
      | inl q' =>
        have hrd : q'.k = 11 := hrd q' rfl
        obtain ⟨tx, ty, tk, tdk, tn, ts, ter, ta⟩ := q'
        have hq11 : tk = 11 := hrd
        subst hq11
        clear hrd
        unfold LPost pcP pc0 pcV at KT
        have HKT := hide KT
        clear KT
        go_wp2_with (first
          | (go_at_call 14; refine HKN.out.mono ?_; rintro e w4 ⟨rfl, h4, k4⟩; have u5 := up_alloc w4 (.cells #[.int .i64 (qx : Int), .int .i64 (qy : Int), .int .i64 8, .int .i64 (qdk : Int), .int .i64 (qn : Int), .bool false, .slice none 0 0, .string qs, .slice none 0 0, .slice none 0 0, .int .i64 (qer : Int)] 50); have r5 := (HI.out.more h4 k4 hlt3 hne2).upw u5 hlt3 hne2; have b5 := r5.old (by omega) (by omega) HG.out.1; obtain ⟨m0, m1, m2, m3, m4, m5, m6, m7, m8, m9, m10⟩ := cells11 b5; obtain ⟨o0, o1, o2, o3, o4, o5, o6⟩ := cells7 r5.bx; have H5 := hide (And.intro r5 (k4.tr (Kr.of_up u5))); clear h4 k4 u5 r5 b5)
          | (go_at_call 71; refine (HKT.out _ H5.out.1.rs H5.out.1.li H5.out.1.bl.size).mono ?_; rintro e w6 ⟨k6, rfl, -, h6⟩; clear m0 m1 m2 m3 m4 m5 m6 m7 m8 m9 m10 o0 o1 o2 o3 o4 o5 o6; have s5 := H5.out.1.bl.size; have g6 : w6.heap[w.heap.size + 1]? = _ := (k6.2 (w.heap.size + 1) (by have := HG.out.2.2.2.2; omega) (by have := HG.out.2.2.2.2; omega) (by omega)).trans (H5.out.1.old (by omega) (by omega) HG.out.2.1); obtain ⟨f0, f1, f2, f3, f4, f5, f6, f7, f8, f9, f10⟩ := frozen11 g6; obtain ⟨d0, d1, d2, d3, d4, d5, d6, d7, d8, d9, d10⟩ := cells11 g6; have H6 := hide (And.intro g6 (And.intro h6 k6)); clear h6 k6 g6 s5))
        obtain ⟨g6, h6, k6⟩ := H6.out
        obtain ⟨q1, q2⟩ := sto11 g6 (.int .i64 (tx : Int)) (.int .i64 (ty : Int)) (.int .i64 11) (.int .i64 (tdk : Int)) (.int .i64 (tn : Int)) (.bool false) (.slice none 0 0) (.string ts) (.slice none 0 0) (.slice none 0 0) (.int .i64 (ter : Int))
        clear f0 f1 f2 f3 f4 f5 f6 f7 f8 f9 f10 d0 d1 d2 d3 d4 d5 d6 d7 d8 d9 d10
        generalize (((((((((((w6.setCell ⟨(w.heap.size + 1), 0, none⟩ (.int .i64 (tx : Int))).setCell ⟨(w.heap.size + 1), 1, none⟩ (.int .i64 (ty : Int))).setCell ⟨(w.heap.size + 1), 2, none⟩ (.int .i64 11)).setCell ⟨(w.heap.size + 1), 3, none⟩ (.int .i64 (tdk : Int))).setCell ⟨(w.heap.size + 1), 4, none⟩ (.int .i64 (tn : Int))).setCell ⟨(w.heap.size + 1), 5, none⟩ (.bool false)).setCell ⟨(w.heap.size + 1), 6, none⟩ (.slice none 0 0)).setCell ⟨(w.heap.size + 1), 7, none⟩ (.string ts)).setCell ⟨(w.heap.size + 1), 8, none⟩ (.slice none 0 0)).setCell ⟨(w.heap.size + 1), 9, none⟩ (.slice none 0 0)).setCell ⟨(w.heap.size + 1), 10, none⟩ (.int .i64 (ter : Int))) = W8 at *
        obtain ⟨d0, d1, d2, d3, d4, d5, d6, d7, d8, d9, d10⟩ := cells11 q1
        refine bodyPost_ret (by simp [results, Tryd.results51, go_sem, d0, d1, d2, d3, d4, d5, d6, d7, d8, d9, d10]; rfl) rfl ?_
        obtain ⟨-, -, uC, hsz, z3⟩ := HG.out
        exact ⟨H5.out.1.krl uC k6 (by omega) q2 (by omega) (by omega), by simp [pcP, pcV], rfl, ⟨q2.up h6.up (by omega), h6.ge, q2.old (by omega) h6.cs⟩⟩
      | inr v0 =>
        obtain ⟨x2, y2, tr, a2⟩ := v0
        clear hrd
        unfold LPost pc0 pcV at KT
        have HKT := hide KT
        clear KT
        go_wp2_with (first
          | (go_at_call 14; refine HKN.out.mono ?_; rintro e w4 ⟨rfl, h4, k4⟩; have u5 := up_alloc w4 (.cells #[.int .i64 (qx : Int), .int .i64 (qy : Int), .int .i64 8, .int .i64 (qdk : Int), .int .i64 (qn : Int), .bool false, .slice none 0 0, .string qs, .slice none 0 0, .slice none 0 0, .int .i64 (qer : Int)] 50); have r5 := (HI.out.more h4 k4 hlt3 hne2).upw u5 hlt3 hne2; have b5 := r5.old (by omega) (by omega) HG.out.1; obtain ⟨m0, m1, m2, m3, m4, m5, m6, m7, m8, m9, m10⟩ := cells11 b5; obtain ⟨o0, o1, o2, o3, o4, o5, o6⟩ := cells7 r5.bx; have H5 := hide (And.intro r5 (k4.tr (Kr.of_up u5))); clear h4 k4 u5 r5 b5)
          | (go_at_call 71; refine (HKT.out _ H5.out.1.rs H5.out.1.li H5.out.1.bl.size).mono ?_; rintro e w6 ⟨k6, ck, cn, cb, j1, j2, j3, cs, i1, i2, i3, r1, r2, r3, rfl, hq6, h6⟩; clear m0 m1 m2 m3 m4 m5 m6 m7 m8 m9 m10 o0 o1 o2 o3 o4 o5 o6; have s5 := H5.out.1.bl.size; have g6 : w6.heap[w.heap.size + 1]? = _ := (k6.2 (w.heap.size + 1) (by have := HG.out.2.2.2.2; omega) (by have := HG.out.2.2.2.2; omega) (by omega)).trans (H5.out.1.old (by omega) (by omega) HG.out.2.1); obtain ⟨f0, f1, f2, f3, f4, f5, f6, f7, f8, f9, f10⟩ := frozen11 g6; obtain ⟨d0, d1, d2, d3, d4, d5, d6, d7, d8, d9, d10⟩ := cells11 g6; have H6 := hide (And.intro g6 (And.intro h6 (And.intro k6 hq6))); clear h6 k6 g6 s5 hq6))
        obtain ⟨g6, h6, k6, hq6⟩ := H6.out
        obtain ⟨q1, q2⟩ := sto11 g6 (.int .i64 (x2 : Int)) (.int .i64 (y2 : Int)) (.int .i64 10) (.int .i64 ck) (.int .i64 cn) (.bool cb) (.slice j1 j2 j3) (.string cs) (.slice i1 i2 i3) (.slice r1 r2 r3) (.int .i64 0)
        clear f0 f1 f2 f3 f4 f5 f6 f7 f8 f9 f10 d0 d1 d2 d3 d4 d5 d6 d7 d8 d9 d10
        generalize (((((((((((w6.setCell ⟨(w.heap.size + 1), 0, none⟩ (.int .i64 (x2 : Int))).setCell ⟨(w.heap.size + 1), 1, none⟩ (.int .i64 (y2 : Int))).setCell ⟨(w.heap.size + 1), 2, none⟩ (.int .i64 10)).setCell ⟨(w.heap.size + 1), 3, none⟩ (.int .i64 ck)).setCell ⟨(w.heap.size + 1), 4, none⟩ (.int .i64 cn)).setCell ⟨(w.heap.size + 1), 5, none⟩ (.bool cb)).setCell ⟨(w.heap.size + 1), 6, none⟩ (.slice j1 j2 j3)).setCell ⟨(w.heap.size + 1), 7, none⟩ (.string cs)).setCell ⟨(w.heap.size + 1), 8, none⟩ (.slice i1 i2 i3)).setCell ⟨(w.heap.size + 1), 9, none⟩ (.slice r1 r2 r3)).setCell ⟨(w.heap.size + 1), 10, none⟩ (.int .i64 0)) = W8 at *
        obtain ⟨d0, d1, d2, d3, d4, d5, d6, d7, d8, d9, d10⟩ := cells11 q1
        refine bodyPost_ret (by simp [results, Tryd.results51, go_sem, d0, d1, d2, d3, d4, d5, d6, d7, d8, d9, d10]; rfl) rfl ?_
        obtain ⟨-, -, uC, hsz, z3⟩ := HG.out
        exact ⟨H5.out.1.krl uC k6 (by omega) q2 (by omega) (by omega), ck, cn, cb, j1, j2, j3, cs, i1, i2, i3, r1, r2, r3, by simp [pcV], DatQ.late hq6 q2 (by omega) (by omega), ⟨q2.up h6.up (by omega), h6.ge, q2.old (by omega) h6.cs⟩⟩
    rw [if_neg c8] at hR
    match hr : (rdM t.data.toList f h).dt q with
    | .inl q' =>
      rw [hr] at hR KD
      have hrd : q'.k = 11 := by have := hnd.1; rw [hr] at this; exact this
      obtain ⟨tx, ty, tk, tdk, tn, ts, ter, ta⟩ := q'
      have hq11 : tk = 11 := hrd
      subst hq11
      replace hR : R = .inl ⟨tx, ty, 11, tdk, tn, ts, ter, ta⟩ := hR
      subst hR
      by_cases e8 : q.k = 8
      · by_cases e6 : kk = 6
        · have eI : I = [] := Classical.byContradiction fun e => c8 ⟨e8, e6, e⟩
          have lI0 : ¬ ((0 : Int) < (I.length : Int)) := by rw [eI]; simp
          subst e6
          clear eI
          obtain ⟨qx, qy, qk, qdk, qn, qs, qer, qa⟩ := q
          have e8 : qk = 8 := e8
          subst e8
          unfold pcP pcV at KN
          unfold DPost pcP pcV at KD
          have HKN := hide KN
          have HKD := hide KD
          clear KN KD hr hq hnd hrd c4 c8
          go_wp2_with (first
            | (go_at_call 14; refine HKN.out.mono ?_; rintro e w4 ⟨rfl, h4, k4⟩; have u5 := up_alloc w4 (.cells #[.int .i64 (qx : Int), .int .i64 (qy : Int), .int .i64 8, .int .i64 (qdk : Int), .int .i64 (qn : Int), .bool false, .slice none 0 0, .string qs, .slice none 0 0, .slice none 0 0, .int .i64 (qer : Int)] 50); have r5 := (HI.out.more h4 k4 hlt3 hne2).upw u5 hlt3 hne2; have b5 := r5.old (by omega) (by omega) HG.out.1; obtain ⟨m0, m1, m2, m3, m4, m5, m6, m7, m8, m9, m10⟩ := cells11 b5; obtain ⟨o0, o1, o2, o3, o4, o5, o6⟩ := cells7 r5.bx; have H5 := hide (And.intro r5 (k4.tr (Kr.of_up u5))); clear h4 k4 u5 r5 b5)
            | (go_at_call 13; refine (HKD.out _ H5.out.1.rs).mono ?_; rintro e w6 ⟨k6, rfl, -, h6⟩; clear m0 m1 m2 m3 m4 m5 m6 m7 m8 m9 m10 o0 o1 o2 o3 o4 o5 o6; have u7 := up_alloc w6 (.cells #[.int .i64 (tx : Int), .int .i64 (ty : Int), .int .i64 11, .int .i64 (tdk : Int), .int .i64 (tn : Int), .bool false, .slice none 0 0, .string ts, .slice none 0 0, .slice none 0 0, .int .i64 (ter : Int)] 50); have r7 := (H5.out.1.more h6 k6 hlt3 hne2).upw u7 hlt3 hne2; have g7 := r7.old (by omega) (by omega) HG.out.2.1; obtain ⟨f0, f1, f2, f3, f4, f5, f6, f7, f8, f9, f10⟩ := frozen11 g7; obtain ⟨d0, d1, d2, d3, d4, d5, d6, d7, d8, d9, d10⟩ := cells11 g7; have H7 := hide (And.intro r7 g7); clear h6 k6 u7 r7 g7))
          obtain ⟨r7, g7⟩ := H7.out
          obtain ⟨q1, q2⟩ := sto11 g7 (.int .i64 (tx : Int)) (.int .i64 (ty : Int)) (.int .i64 11) (.int .i64 (tdk : Int)) (.int .i64 (tn : Int)) (.bool false) (.slice none 0 0) (.string ts) (.slice none 0 0) (.slice none 0 0) (.int .i64 (ter : Int))
          clear f0 f1 f2 f3 f4 f5 f6 f7 f8 f9 f10 d0 d1 d2 d3 d4 d5 d6 d7 d8 d9 d10
          generalize w6.alloc (.cells #[.int .i64 (tx : Int), .int .i64 (ty : Int), .int .i64 11, .int .i64 (tdk : Int), .int .i64 (tn : Int), .bool false, .slice none 0 0, .string ts, .slice none 0 0, .slice none 0 0, .int .i64 (ter : Int)] 50) = W7 at *
          generalize (((((((((((W7.setCell ⟨(w.heap.size + 1), 0, none⟩ (.int .i64 (tx : Int))).setCell ⟨(w.heap.size + 1), 1, none⟩ (.int .i64 (ty : Int))).setCell ⟨(w.heap.size + 1), 2, none⟩ (.int .i64 11)).setCell ⟨(w.heap.size + 1), 3, none⟩ (.int .i64 (tdk : Int))).setCell ⟨(w.heap.size + 1), 4, none⟩ (.int .i64 (tn : Int))).setCell ⟨(w.heap.size + 1), 5, none⟩ (.bool false)).setCell ⟨(w.heap.size + 1), 6, none⟩ (.slice none 0 0)).setCell ⟨(w.heap.size + 1), 7, none⟩ (.string ts)).setCell ⟨(w.heap.size + 1), 8, none⟩ (.slice none 0 0)).setCell ⟨(w.heap.size + 1), 9, none⟩ (.slice none 0 0)).setCell ⟨(w.heap.size + 1), 10, none⟩ (.int .i64 (ter : Int))) = W8 at *
          obtain ⟨d0, d1, d2, d3, d4, d5, d6, d7, d8, d9, d10⟩ := cells11 q1
          refine bodyPost_ret (by simp [results, Tryd.results51, go_sem, d0, d1, d2, d3, d4, d5, d6, d7, d8, d9, d10]; rfl) rfl ?_
          obtain ⟨-, -, uC, hsz, z3⟩ := HG.out
          exact ⟨r7.kr uC q2 (by omega) (by omega), by simp [pcP, pcV], rfl, ⟨q2.up r7.rs.up (by omega), r7.rs.ge, q2.old (by omega) r7.rs.cs⟩⟩
        · have kkI : ¬ (kk = 6) := e6
          obtain ⟨qx, qy, qk, qdk, qn, qs, qer, qa⟩ := q
          have e8 : qk = 8 := e8
          subst e8
          unfold pcP pcV at KN
          unfold DPost pcP pcV at KD
          have HKN := hide KN
          have HKD := hide KD
          clear KN KD hr hq hnd hrd c4 c8
          go_wp2_with (first
            | (go_at_call 14; refine HKN.out.mono ?_; rintro e w4 ⟨rfl, h4, k4⟩; have u5 := up_alloc w4 (.cells #[.int .i64 (qx : Int), .int .i64 (qy : Int), .int .i64 8, .int .i64 (qdk : Int), .int .i64 (qn : Int), .bool false, .slice none 0 0, .string qs, .slice none 0 0, .slice none 0 0, .int .i64 (qer : Int)] 50); have r5 := (HI.out.more h4 k4 hlt3 hne2).upw u5 hlt3 hne2; have b5 := r5.old (by omega) (by omega) HG.out.1; obtain ⟨m0, m1, m2, m3, m4, m5, m6, m7, m8, m9, m10⟩ := cells11 b5; obtain ⟨o0, o1, o2, o3, o4, o5, o6⟩ := cells7 r5.bx; have H5 := hide (And.intro r5 (k4.tr (Kr.of_up u5))); clear h4 k4 u5 r5 b5)
            | (go_at_call 13; refine (HKD.out _ H5.out.1.rs).mono ?_; rintro e w6 ⟨k6, rfl, -, h6⟩; clear m0 m1 m2 m3 m4 m5 m6 m7 m8 m9 m10 o0 o1 o2 o3 o4 o5 o6; have u7 := up_alloc w6 (.cells #[.int .i64 (tx : Int), .int .i64 (ty : Int), .int .i64 11, .int .i64 (tdk : Int), .int .i64 (tn : Int), .bool false, .slice none 0 0, .string ts, .slice none 0 0, .slice none 0 0, .int .i64 (ter : Int)] 50); have r7 := (H5.out.1.more h6 k6 hlt3 hne2).upw u7 hlt3 hne2; have g7 := r7.old (by omega) (by omega) HG.out.2.1; obtain ⟨f0, f1, f2, f3, f4, f5, f6, f7, f8, f9, f10⟩ := frozen11 g7; obtain ⟨d0, d1, d2, d3, d4, d5, d6, d7, d8, d9, d10⟩ := cells11 g7; have H7 := hide (And.intro r7 g7); clear h6 k6 u7 r7 g7))
          obtain ⟨r7, g7⟩ := H7.out
          obtain ⟨q1, q2⟩ := sto11 g7 (.int .i64 (tx : Int)) (.int .i64 (ty : Int)) (.int .i64 11) (.int .i64 (tdk : Int)) (.int .i64 (tn : Int)) (.bool false) (.slice none 0 0) (.string ts) (.slice none 0 0) (.slice none 0 0) (.int .i64 (ter : Int))
          clear f0 f1 f2 f3 f4 f5 f6 f7 f8 f9 f10 d0 d1 d2 d3 d4 d5 d6 d7 d8 d9 d10
          generalize w6.alloc (.cells #[.int .i64 (tx : Int), .int .i64 (ty : Int), .int .i64 11, .int .i64 (tdk : Int), .int .i64 (tn : Int), .bool false, .slice none 0 0, .string ts, .slice none 0 0, .slice none 0 0, .int .i64 (ter : Int)] 50) = W7 at *
          generalize (((((((((((W7.setCell ⟨(w.heap.size + 1), 0, none⟩ (.int .i64 (tx : Int))).setCell ⟨(w.heap.size + 1), 1, none⟩ (.int .i64 (ty : Int))).setCell ⟨(w.heap.size + 1), 2, none⟩ (.int .i64 11)).setCell ⟨(w.heap.size + 1), 3, none⟩ (.int .i64 (tdk : Int))).setCell ⟨(w.heap.size + 1), 4, none⟩ (.int .i64 (tn : Int))).setCell ⟨(w.heap.size + 1), 5, none⟩ (.bool false)).setCell ⟨(w.heap.size + 1), 6, none⟩ (.slice none 0 0)).setCell ⟨(w.heap.size + 1), 7, none⟩ (.string ts)).setCell ⟨(w.heap.size + 1), 8, none⟩ (.slice none 0 0)).setCell ⟨(w.heap.size + 1), 9, none⟩ (.slice none 0 0)).setCell ⟨(w.heap.size + 1), 10, none⟩ (.int .i64 (ter : Int))) = W8 at *
          obtain ⟨d0, d1, d2, d3, d4, d5, d6, d7, d8, d9, d10⟩ := cells11 q1
          refine bodyPost_ret (by simp [results, Tryd.results51, go_sem, d0, d1, d2, d3, d4, d5, d6, d7, d8, d9, d10]; rfl) rfl ?_
          obtain ⟨-, -, uC, hsz, z3⟩ := HG.out
          exact ⟨r7.kr uC q2 (by omega) (by omega), by simp [pcP, pcV], rfl, ⟨q2.up r7.rs.up (by omega), r7.rs.ge, q2.old (by omega) r7.rs.cs⟩⟩
      · have c8I : ¬ ((q.k : Int) = 8) := by omega
        unfold pcP pcV at KN
        unfold DPost pcP pcV at KD
        have HKN := hide KN
        have HKD := hide KD
        clear KN KD hr hq hnd hrd c4 c8
        go_wp2_with (first
          | (go_at_call 14; refine HKN.out.mono ?_; rintro e w4 ⟨rfl, h4, k4⟩; have u5 := up_alloc w4 (.cells #[.int .i64 (q.x : Int), .int .i64 (q.y : Int), .int .i64 (q.k : Int), .int .i64 (q.dk : Int), .int .i64 (q.n : Int), .bool false, .slice none 0 0, .string q.s, .slice none 0 0, .slice none 0 0, .int .i64 (q.er : Int)] 50); have r5 := (HI.out.more h4 k4 hlt3 hne2).upw u5 hlt3 hne2; have b5 := r5.old (by omega) (by omega) HG.out.1; obtain ⟨m0, m1, m2, m3, m4, m5, m6, m7, m8, m9, m10⟩ := cells11 b5; obtain ⟨o0, o1, o2, o3, o4, o5, o6⟩ := cells7 r5.bx; have H5 := hide (And.intro r5 (k4.tr (Kr.of_up u5))); clear h4 k4 u5 r5 b5)
          | (go_at_call 13; refine (HKD.out _ H5.out.1.rs).mono ?_; rintro e w6 ⟨k6, rfl, -, h6⟩; clear m0 m1 m2 m3 m4 m5 m6 m7 m8 m9 m10 o0 o1 o2 o3 o4 o5 o6; have u7 := up_alloc w6 (.cells #[.int .i64 (tx : Int), .int .i64 (ty : Int), .int .i64 11, .int .i64 (tdk : Int), .int .i64 (tn : Int), .bool false, .slice none 0 0, .string ts, .slice none 0 0, .slice none 0 0, .int .i64 (ter : Int)] 50); have r7 := (H5.out.1.more h6 k6 hlt3 hne2).upw u7 hlt3 hne2; have g7 := r7.old (by omega) (by omega) HG.out.2.1; obtain ⟨f0, f1, f2, f3, f4, f5, f6, f7, f8, f9, f10⟩ := frozen11 g7; obtain ⟨d0, d1, d2, d3, d4, d5, d6, d7, d8, d9, d10⟩ := cells11 g7; have H7 := hide (And.intro r7 g7); clear h6 k6 u7 r7 g7))
        obtain ⟨r7, g7⟩ := H7.out
        obtain ⟨q1, q2⟩ := sto11 g7 (.int .i64 (tx : Int)) (.int .i64 (ty : Int)) (.int .i64 11) (.int .i64 (tdk : Int)) (.int .i64 (tn : Int)) (.bool false) (.slice none 0 0) (.string ts) (.slice none 0 0) (.slice none 0 0) (.int .i64 (ter : Int))
        clear f0 f1 f2 f3 f4 f5 f6 f7 f8 f9 f10 d0 d1 d2 d3 d4 d5 d6 d7 d8 d9 d10
        generalize w6.alloc (.cells #[.int .i64 (tx : Int), .int .i64 (ty : Int), .int .i64 11, .int .i64 (tdk : Int), .int .i64 (tn : Int), .bool false, .slice none 0 0, .string ts, .slice none 0 0, .slice none 0 0, .int .i64 (ter : Int)] 50) = W7 at *
        generalize (((((((((((W7.setCell ⟨(w.heap.size + 1), 0, none⟩ (.int .i64 (tx : Int))).setCell ⟨(w.heap.size + 1), 1, none⟩ (.int .i64 (ty : Int))).setCell ⟨(w.heap.size + 1), 2, none⟩ (.int .i64 11)).setCell ⟨(w.heap.size + 1), 3, none⟩ (.int .i64 (tdk : Int))).setCell ⟨(w.heap.size + 1), 4, none⟩ (.int .i64 (tn : Int))).setCell ⟨(w.heap.size + 1), 5, none⟩ (.bool false)).setCell ⟨(w.heap.size + 1), 6, none⟩ (.slice none 0 0)).setCell ⟨(w.heap.size + 1), 7, none⟩ (.string ts)).setCell ⟨(w.heap.size + 1), 8, none⟩ (.slice none 0 0)).setCell ⟨(w.heap.size + 1), 9, none⟩ (.slice none 0 0)).setCell ⟨(w.heap.size + 1), 10, none⟩ (.int .i64 (ter : Int))) = W8 at *
        obtain ⟨d0, d1, d2, d3, d4, d5, d6, d7, d8, d9, d10⟩ := cells11 q1
        refine bodyPost_ret (by simp [results, Tryd.results51, go_sem, d0, d1, d2, d3, d4, d5, d6, d7, d8, d9, d10]; rfl) rfl ?_
        obtain ⟨-, -, uC, hsz, z3⟩ := HG.out
        exact ⟨r7.kr uC q2 (by omega) (by omega), by simp [pcP, pcV], rfl, ⟨q2.up r7.rs.up (by omega), r7.rs.ge, q2.old (by omega) r7.rs.cs⟩⟩
    | .inr (x2, y2, tr, a2) =>
      rw [hr] at hR KD
      have e8 : ¬ (q.k = 8) := fun e => by
        obtain ⟨g, rfl⟩ : ∃ g, f = g + 1 := ⟨f - 1, by have := HF.out; omega⟩
        have hr : dtS t.data.toList (rdM t.data.toList g) h q = .inr (x2, y2, tr, a2) := hr
        unfold dtS at hr
        rw [if_neg (by omega), if_neg (by omega), if_pos e] at hr
        cases hr
      have n0 : ¬ nowP q := fun e => by
        obtain ⟨g, rfl⟩ : ∃ g, f = g + 1 := ⟨f - 1, by have := HF.out; omega⟩
        have hr : dtS t.data.toList (rdM t.data.toList g) h q = .inr (x2, y2, tr, a2) := hr
        rcases e with e | e
        · unfold dtS at hr; rw [if_pos e] at hr; cases hr
        · unfold dtS at hr
          rw [if_neg (by omega), if_neg (by omega), if_neg (by omega), if_neg (by omega), if_neg (by omega), if_neg (by omega), if_neg (by omega)] at hr
          cases hr
      have c8I : ¬ ((q.k : Int) = 8) := by omega
      have hl4 := HL.out (fun e => n0 (.inl e)) (fun e => n0 (.inr e))
      have hrd := (rdM_ok t.data.toList f h).2.1
      have hok := hnd.2 _ _ _ _ hr
      rw [hl] at hok
      have HOK := hide (And.intro hok hl4)
      replace hR : R = (rdM t.data.toList f h).rw x kk (I ++ [tr]) a2 := hR
      have HR := hide hR
      have ha2 : A < a2 := by
        have h1 := (rdM_ok t.data.toList f h).2.1 q (by rw [hl]; exact HPK.out.1) HPK.out.2.1 HPK.out.2.2
        rw [hr] at h1
        have := h1.1
        omega
      unfold pcP pcV at KN
      unfold DPost pcP pcV at KD
      have HKN := hide KN
      have HKD := hide KD
      have h03 : w0.heap.size ≤ W3.heap.size := by have := HG.out.2.2.1.size; have := HG.out.2.2.2.1; omega
      have hBl : w.heap.size + 2 < W3.heap.size := by have := HG.out.2.2.2.2; omega
      clear KN KD hr hq hnd hrd c4 c8 e8 n0 hl4 hok hR HI0
      go_wp2_with (first
        | (go_at_call 14; refine HKN.out.mono ?_; rintro e w4 ⟨rfl, h4, k4⟩; have u5 := up_alloc w4 (.cells #[.int .i64 (q.x : Int), .int .i64 (q.y : Int), .int .i64 (q.k : Int), .int .i64 (q.dk : Int), .int .i64 (q.n : Int), .bool false, .slice none 0 0, .string q.s, .slice none 0 0, .slice none 0 0, .int .i64 (q.er : Int)] 50); have r5 := (HI.out.more h4 k4 hlt3 hne2).upw u5 hlt3 hne2; have b5 := r5.old (by omega) (by omega) HG.out.1; obtain ⟨m0, m1, m2, m3, m4, m5, m6, m7, m8, m9, m10⟩ := cells11 b5; obtain ⟨o0, o1, o2, o3, o4, o5, o6⟩ := cells7 r5.bx; have H5 := hide (And.intro r5 (k4.tr (Kr.of_up u5))); clear h4 k4 u5 r5 b5)
        | (go_at_call 13; refine (HKD.out _ H5.out.1.rs).mono ?_; rintro e w6 ⟨k6, ck, cn, cb, j1, j2, j3, cs, i1, i2, i3, r1, r2, r3, rfl, hq6, h6⟩; clear m0 m1 m2 m3 m4 m5 m6 m7 m8 m9 m10 o0 o1 o2 o3 o4 o5 o6; have u7 := up_alloc w6 (.cells #[.int .i64 (x2 : Int), .int .i64 (y2 : Int), .int .i64 10, .int .i64 ck, .int .i64 cn, .bool cb, .slice j1 j2 j3, .string cs, .slice i1 i2 i3, .slice r1 r2 r3, .int .i64 0] 50); have r7 := (H5.out.1.more h6 k6 hlt3 hne2).upw u7 hlt3 hne2; obtain ⟨o0, o1, o2, o3, o4, o5, o6⟩ := cells7 r7.bx; have hon := hq6.dat.onesR; have hrw := r7.li.own; have H7 := hide (And.intro (h6.more5 u7) (And.intro (k6.tr (Kr.of_up u7)) (And.intro (DatQ.keep (Q' := fun b => _ ≤ b) (fun g hg _ => u7.block g hg) (fun _ _ h => h) hq6) r7.bl.size))); have HON := hide hon; have HRW := hide hrw; clear h6 k6 u7 r7 hq6 hon hrw)
        | (at_builtin; refine wpList_append_lies _ rfl _ _ 29 rfl W3.heap.size 31 iD (.agg #[.int .i64 0, .int .i64 0, .bool false, .slice none 0 0, .string ⟨#[]⟩, .slice none 0 0, .slice none 0 0]) 7 112 Tryd.underlying29 hiD hz0 hz1 hz2 rfl (by decide) (.slice ao I.length cap) I.length _ rfl (HRW.out.alloc _) ⟨w6.heap.size + 1, 0, none⟩ 1 1 _ rfl rfl (hcellsG _ _ (by simp) _ _ _ _ _ _ _ _) HON.out (by decide) (by unfold maxLen; omega) (by omega) (by have := H7.out.2.2.2; simp at this ⊢; omega) (w6.heap.size + 2) (by simp) ?_; intro g9 cap9 w9 hown9 hgrow9 hat9 _; have r9 := H5.out.1.snoc H7.out.1 H7.out.2.1 hlt3 hBl hne2 h03 H7.out.2.2.1 hown9 hgrow9 (hat9.imp id (fun e => e.trans (by simp))) (by have := HG.out.2.2.2.1; omega); clear o0 o1 o2 o3 o4 o5 o6; obtain ⟨o0, o1, o2, o3, o4, o5, o6⟩ := cells7 r9.1; obtain ⟨f0, f1, f2, f3, f4, f5, f6⟩ := frozen7k r9.1; have H9 := hide r9.2; clear hown9 hgrow9 hat9 r9))
      obtain ⟨⟨h1, h2, -⟩, -⟩ := HOK.out
      refine ⟨⟨a2, f, I ++ [tr], _, _, H9.out, h2, by omega, by rw [List.length_append, List.length_singleton]; omega, by have := HF.out; omega, HR.out⟩, ?_⟩
      rw [H9.out.rs.at, HAT.out]
      omega

end Go.Proofs.YteipogfolnlblaaDoor
