/-
  What is proved here: package read's next, given its datum.
-/
import Derived.Test.YteipogfolnlblaaDoorWXI
import Derived.WalkMore
import Derived.ScopeJumps
namespace Go.Proofs.YteipogfolnlblaaDoor
open Go Go.RowKit
theorem jump_mono {l : Nat} {J J' : Act → World → Prop} {Q : Exit → Act → World → Prop} (h : ∀ a w, J a w → J' a w) : ∀ (e : Exit) (a : Act) (w : World), Exit.jump l J Q e a w → Exit.jump l J' Q e a w := fun e a w hq => by
  cases e with
  | goto l' => exact ⟨hq.1, h _ _ hq.2⟩
  | normal => exact hq
  | exit id => exact hq
  | ret => exact hq
  | panic ch => exact hq
  | outgrown => exact hq

theorem scope_jumps1 {P : Program} {a : Act} {w : World} {Q : Exit → Act → World → Prop} {c X : Code} (l : Nat) (J : Act → World → Prop) (μ : Act → World → Nat) (hf : findLabel c l = some (Code.skip.seq X))
    (pass : ∀ a w, J a w → X.wp P (Exit.jump l (fun a' w' => J a' w' ∧ μ a' w' < μ a w) Q) a w)
    (first : (∀ a w, J a w → X.wp P (Exit.jump l J Q) a w) → c.wp P (Exit.jump l J Q) a w) : (Code.scope c).wp P Q a w :=
  wp_scope_jumps l J μ hf (first fun a w h => Code.wp_mono (jump_mono fun _ _ h => h.1) (pass a w h)) (fun a w h => wp_seq (wp_skip (pass a w h)))

set_option maxHeartbeats 16000000 in
set_option maxRecDepth 100000 in
theorem next_of (t : ByteArray) (m : Nat) (ht : t.size ≤ 100000000) (hD : DatOK t m) : NextOK t (m + 1) := by
  intro w0 rb h a f w hs hh ha hm hf
  have hl : t.data.toList.length = t.size := bytes_len t
  have uA := up_alloc w zer11
  have hA := hs.more5 uA
  have gA : (w.alloc zer11).heap[w.heap.size]? = some zer11 := heap_alloc_new w zer11
  have hlt := hs.lt
  have hsz : w0.heap.size ≤ w.heap.size := hs.up.size
  obtain ⟨P, hP⟩ : ∃ P, P = (rdM t.data.toList f h).nx 0 a := ⟨_, rfl⟩
  rw [← hP]
  obtain ⟨W1, hW1⟩ : ∃ W1, W1 = w.alloc zer11 := ⟨_, rfl⟩
  rw [← hW1] at uA hA gA
  have HW1 := hide hW1
  unfold zer11 at HW1
  have HG := hide (And.intro gA (And.intro uA (And.intro hlt hsz)))
  have H0 := hide (And.intro hA (And.intro ha (And.intro hf hP)))
  have HD := hide hD
  have HM := hide hm
  clear hs uA hA gA hW1 hP hf hm hD hlt
  go_enter Tryd.func14, Tryd.ntmps14
  go_wp2_with fail
  rw [← HW1.out]
  refine scope_jumps1 0 (fun a' w' => ∃ (ps A f : Nat) (u4 u5 u6 u7 u8 u9 u10 u11 u12 u13 u14 u15 u16 u17 u18 u19 u20 u21 u22 u23 u24 u25 u26 u27 u28 u29 u30 : Value), a' = { tmps := #[.pointer (some ⟨rb, 0, none⟩), undef, .pointer (some ⟨w.heap.size, 0, none⟩), .int .i64 (ps : Int), u4, u5, u6, u7, u8, u9, u10, u11, u12, u13, u14, u15, u16, u17, u18, u19, u20, u21, u22, u23, u24, u25, u26, u27, u28, u29, u30], defers := [] } ∧ RS w0 rb t A (100 - h) w' ∧ Kr rb W1 w' ∧ A ≤ t.size ∧ a ≤ A ∧ ps ≤ A ∧ 3 * (t.size - A) + 2 ≤ f ∧ P = (rdM t.data.toList f h).nx ps A) (fun _ w' => t.size - atR w' rb) rfl ?_ ?_
  · rintro a' w' ⟨ps, A, f, u4, u5, u6, u7, u8, u9, u10, u11, u12, u13, u14, u15, u16, u17, u18, u19, u20, u21, u22, u23, u24, u25, u26, u27, u28, u29, u30, rfl, hs, hk, hA, haA, hps, hf, hP⟩
    obtain ⟨f, rfl⟩ : ∃ f', f = f' + 1 := ⟨f - 1, by omega⟩
    have hP : P = nxS t.data.toList (rdM t.data.toList f h) ps A := hP
    unfold nxS at hP
    rw [hl] at hP
    have KP := piece_P w0 rb t A (100 - h) w' hs ht hA
    have hok := piece_ok t.size A (t.data.toList.drop A) (by rw [List.length_drop, hl]) hA
    have hat := hs.at
    have HRM := hide (rdM_ok t.data.toList f h)
    generalize pieceP t.size A (t.data.toList.drop A) = C at *
    have HP := hide KP
    have HOK := hide hok
    have HAT := hide hat
    have HK := hide hk
    have HF := hide hf
    clear KP hok hat hk hs hf
    unfold pcP pcV at HP
    have psI : (ps : Int) ≤ 100000000 := by omega
    by_cases c1 : C.k = 1
    · rw [if_pos c1] at hP
      have HPP := hide hP
      have c1I : (C.k : Int) = 1 := by omega
      have HC1 := hide c1
      clear hP c1
      go_wp2_with (go_at_call 27; refine HP.out.mono ?_; rintro e w2 ⟨rfl, h2, k2⟩; have H2 := hide h2; have HK2 := hide k2; clear h2 k2)
      go_step3
      obtain ⟨hok1, hok2, hok3, hok4⟩ := HOK.out
      have hlt4 := hok4 (by rw [HC1.out]; decide) (by rw [HC1.out]; decide)
      have h3 := H2.out.more5 (up_alloc w2 (.cells #[.int .i64 (C.x : Int), .int .i64 (C.y : Int), .int .i64 1, .int .i64 (C.dk : Int), .int .i64 (C.n : Int), .bool false, .slice none 0 0, .string C.s, .slice none 0 0, .slice none 0 0, .int .i64 (C.er : Int)] 50))
      refine ⟨rfl, ⟨ps, C.a, f, _, _, _, _, _, _, _, _, _, _, _, _, _, _, _, _, _, _, _, _, _, _, _, _, _, _, _, rfl, h3, (HK.out.tr HK2.out).tr (Kr.of_up (up_alloc _ _)), hok3, by omega, by omega, by have := HF.out; omega, HPP.out⟩, ?_⟩
      rw [h3.at, HAT.out]
      omega
    rw [if_neg c1] at hP
    have c1I : ¬ ((C.k : Int) = 1) := by omega
    by_cases c2 : C.k = 2
    · rw [if_pos c2] at hP
      have HPP := hide hP
      have c2I : (C.k : Int) = 2 := by omega
      have HC2 := hide c2
      clear hP c1 c2 c1I
      go_wp2_with (go_at_call 27; refine HP.out.mono ?_; rintro e w2 ⟨rfl, h2, k2⟩; have H2 := hide h2; have HK2 := hide k2; clear h2 k2)
      go_step3
      obtain ⟨hok1, hok2, hok3, hok4⟩ := HOK.out
      have hlt4 := hok4 (by rw [HC2.out]; decide) (by rw [HC2.out]; decide)
      have h3 := H2.out.more5 (up_alloc w2 (.cells #[.int .i64 (C.x : Int), .int .i64 (C.y : Int), .int .i64 2, .int .i64 (C.dk : Int), .int .i64 (C.n : Int), .bool false, .slice none 0 0, .string C.s, .slice none 0 0, .slice none 0 0, .int .i64 (C.er : Int)] 50))
      refine ⟨rfl, ⟨ps + 1, C.a, f, _, _, _, _, _, _, _, _, _, _, _, _, _, _, _, _, _, _, _, _, _, _, _, _, _, _, _, rfl, h3, (HK.out.tr HK2.out).tr (Kr.of_up (up_alloc _ _)), hok3, by omega, by omega, by have := HF.out; omega, HPP.out⟩, ?_⟩
      rw [h3.at, HAT.out]
      omega
    rw [if_neg c2] at hP
    have c2I : ¬ ((C.k : Int) = 2) := by omega
    by_cases c3 : 0 < ps
    · rw [if_pos c3] at hP
      have c3I : (0 : Int) < (ps : Int) := by omega
      have hrd := HRM.out.2.1 C HOK.out.1 c1 c2
      have hpre : (nowP C ∧ 1 ≤ f) ∨ (t.size - C.a < m ∧ 3 * (t.size - C.a) + 4 ≤ f) := by
        by_cases n0 : nowP C
        · exact .inl ⟨n0, by have := HF.out; omega⟩
        · obtain ⟨hok1, hok2, hok3, hok4⟩ := HOK.out
          have := hok4 (fun e => n0 (.inl e)) (fun e => n0 (.inr e))
          have := HM.out
          exact .inr ⟨by omega, by have := HF.out; omega⟩
      have KD := fun (W : World) (hW : RS w0 rb t C.a (100 - h) W) => HD.out w0 rb h C f W hW hh HOK.out.1 c1 c2 hpre
      match hR : (rdM t.data.toList f h).dt C with
      | .inl q =>
        rw [hR] at hP KD hrd
        have hq11 : q.k = 11 := hrd
        obtain ⟨qx, qy, qk, qdk, qn, qs, qer, qa⟩ := q
        have hq11 : qk = 11 := hq11
        subst hq11
        have hP : P = ⟨qx, qy, 11, qdk, qn, qs, qer, qa⟩ := hP
        subst hP
        unfold DPost pcP pcV at KD
        have HKD := hide KD
        clear KD hR hrd c1 c2 hpre
        go_wp2_with (first
          | (go_at_call 27; refine HP.out.mono ?_; rintro e w2 ⟨rfl, h2, k2⟩; have u3 := up_alloc w2 (.cells #[.int .i64 (C.x : Int), .int .i64 (C.y : Int), .int .i64 (C.k : Int), .int .i64 (C.dk : Int), .int .i64 (C.n : Int), .bool false, .slice none 0 0, .string C.s, .slice none 0 0, .slice none 0 0, .int .i64 (C.er : Int)] 50); have H2 := hide (h2.more5 u3); have HK2 := hide ((HK.out.tr k2).tr (Kr.of_up u3)); clear h2 k2 u3)
          | (go_at_call 13; refine (HKD.out _ H2.out).mono ?_; rintro e w4 ⟨k4, rfl, -, h4⟩; have u5 := up_alloc w4 (.cells #[.int .i64 (qx : Int), .int .i64 (qy : Int), .int .i64 11, .int .i64 (qdk : Int), .int .i64 (qn : Int), .bool false, .slice none 0 0, .string qs, .slice none 0 0, .slice none 0 0, .int .i64 (qer : Int)] 50); have g5 := u5.old (((HK2.out).tr k4).old (Nat.ne_of_gt HG.out.2.2.1) HG.out.1); obtain ⟨f0, f1, f2, f3, f4, f5, f6, f7, f8, f9, f10⟩ := frozen11 g5; obtain ⟨d0, d1, d2, d3, d4, d5, d6, d7, d8, d9, d10⟩ := cells11 g5; have H5 := hide (And.intro g5 (And.intro (h4.more5 u5) (((HK2.out).tr k4).tr (Kr.of_up u5)))); clear k4 h4 u5 g5))
        obtain ⟨g5, h5, k5⟩ := H5.out
        obtain ⟨q1, q2⟩ := sto11 g5 (.int .i64 (qx : Int)) (.int .i64 (qy : Int)) (.int .i64 11) (.int .i64 (qdk : Int)) (.int .i64 (qn : Int)) (.bool false) (.slice none 0 0) (.string qs) (.slice none 0 0) (.slice none 0 0) (.int .i64 (qer : Int))
        clear f0 f1 f2 f3 f4 f5 f6 f7 f8 f9 f10 d0 d1 d2 d3 d4 d5 d6 d7 d8 d9 d10
        generalize w4.alloc (.cells #[.int .i64 (qx : Int), .int .i64 (qy : Int), .int .i64 11, .int .i64 (qdk : Int), .int .i64 (qn : Int), .bool false, .slice none 0 0, .string qs, .slice none 0 0, .slice none 0 0, .int .i64 (qer : Int)] 50) = W5 at *
        generalize (((((((((((W5.setCell ⟨w.heap.size, 0, none⟩ (.int .i64 (qx : Int))).setCell ⟨w.heap.size, 1, none⟩ (.int .i64 (qy : Int))).setCell ⟨w.heap.size, 2, none⟩ (.int .i64 11)).setCell ⟨w.heap.size, 3, none⟩ (.int .i64 (qdk : Int))).setCell ⟨w.heap.size, 4, none⟩ (.int .i64 (qn : Int))).setCell ⟨w.heap.size, 5, none⟩ (.bool false)).setCell ⟨w.heap.size, 6, none⟩ (.slice none 0 0)).setCell ⟨w.heap.size, 7, none⟩ (.string qs)).setCell ⟨w.heap.size, 8, none⟩ (.slice none 0 0)).setCell ⟨w.heap.size, 9, none⟩ (.slice none 0 0)).setCell ⟨w.heap.size, 10, none⟩ (.int .i64 (qer : Int))) = W6 at *
        obtain ⟨d0, d1, d2, d3, d4, d5, d6, d7, d8, d9, d10⟩ := cells11 q1
        simp only [Exit.jump]
        refine bodyPost_ret (by simp [results, Tryd.results14, go_sem, d0, d1, d2, d3, d4, d5, d6, d7, d8, d9, d10]; rfl) rfl ?_
        obtain ⟨-, uA, hlt, hsz⟩ := HG.out
        exact ⟨by simp [pcP, pcV], ⟨q2.up h5.up hsz, h5.ge, q2.old (Nat.ne_of_lt hlt) h5.cs⟩, Kr.join uA k5 q2 (Nat.le_refl _)⟩
      | .inr (x2, y2, tr, a2) =>
        rw [hR] at hP KD hrd
        obtain ⟨r1', r2', -⟩ := hrd
        have HPP := hide hP
        unfold DPost pcV at KD
        have HKD := hide KD
        have n0 : ¬ nowP C := fun e => by
          obtain ⟨g, rfl⟩ : ∃ g, f = g + 1 := ⟨f - 1, by have := HF.out; omega⟩
          have hR : dtS t.data.toList (rdM t.data.toList g) h C = .inr (x2, y2, tr, a2) := hR
          rcases e with e | e
          · unfold dtS at hR; rw [if_pos e] at hR; cases hR
          · unfold dtS at hR
            rw [if_neg (by omega), if_neg (by omega), if_neg (by omega), if_neg (by omega), if_neg (by omega), if_neg (by omega), if_neg (by omega)] at hR
            cases hR
        have hlt4 := HOK.out.2.2.2 (fun e => n0 (.inl e)) (fun e => n0 (.inr e))
        have HL4 := hide (And.intro hlt4 (And.intro r1' r2'))
        clear KD hR c1 c2 hpre n0 hP r1' r2' hlt4
        go_wp2_with (first
          | (go_at_call 27; refine HP.out.mono ?_; rintro e w2 ⟨rfl, h2, k2⟩; have u3 := up_alloc w2 (.cells #[.int .i64 (C.x : Int), .int .i64 (C.y : Int), .int .i64 (C.k : Int), .int .i64 (C.dk : Int), .int .i64 (C.n : Int), .bool false, .slice none 0 0, .string C.s, .slice none 0 0, .slice none 0 0, .int .i64 (C.er : Int)] 50); have H2 := hide (h2.more5 u3); have HK2 := hide ((HK.out.tr k2).tr (Kr.of_up u3)); clear h2 k2 u3)
          | (go_at_call 13; refine (HKD.out _ H2.out).mono ?_; rintro e w4 ⟨k4, ck, cn, cb, j1, j2, j3, cs, i1, i2, i3, r1, r2, r3, rfl, -, h4⟩; have H5 := hide (And.intro h4 ((HK2.out).tr k4)); clear k4 h4))
        go_step3
        obtain ⟨h4, k4⟩ := H5.out
        obtain ⟨l1, l2, l3⟩ := HL4.out
        have h3 := h4.more5 (up_alloc w4 (.cells #[.int .i64 (x2 : Int), .int .i64 (y2 : Int), .int .i64 10, .int .i64 ck, .int .i64 cn, .bool cb, .slice j1 j2 j3, .string cs, .slice i1 i2 i3, .slice r1 r2 r3, .int .i64 0] 50))
        have e1 : ((ps : Int) - 1) = ((ps - 1 : Nat) : Int) := by omega
        rw [e1]
        refine ⟨rfl, ⟨ps - 1, a2, f, _, _, _, _, _, _, _, _, _, _, _, _, _, _, _, _, _, _, _, _, _, _, _, _, _, _, _, rfl, h3, k4.tr (Kr.of_up (up_alloc _ _)), l3, by omega, by omega, by have := HF.out; omega, HPP.out⟩, ?_⟩
        rw [h3.at, HAT.out]
        omega
    · rw [if_neg c3] at hP
      have c3I : ¬ ((0 : Int) < (ps : Int)) := by omega
      have HPP := hide hP
      clear hP c1 c2
      go_wp2_with (go_at_call 27; refine HP.out.mono ?_; rintro e w2 ⟨rfl, h2, k2⟩; have u5 := up_alloc w2 (.cells #[.int .i64 (C.x : Int), .int .i64 (C.y : Int), .int .i64 (C.k : Int), .int .i64 (C.dk : Int), .int .i64 (C.n : Int), .bool false, .slice none 0 0, .string C.s, .slice none 0 0, .slice none 0 0, .int .i64 (C.er : Int)] 50); have g5 := u5.old (((HK.out).tr k2).old (Nat.ne_of_gt HG.out.2.2.1) HG.out.1); obtain ⟨f0, f1, f2, f3, f4, f5, f6, f7, f8, f9, f10⟩ := frozen11 g5; obtain ⟨d0, d1, d2, d3, d4, d5, d6, d7, d8, d9, d10⟩ := cells11 g5; have H5 := hide (And.intro g5 (And.intro (h2.more5 u5) (((HK.out).tr k2).tr (Kr.of_up u5)))); clear k2 h2 u5 g5)
      obtain ⟨g5, h5, k5⟩ := H5.out
      obtain ⟨q1, q2⟩ := sto11 g5 (.int .i64 (C.x : Int)) (.int .i64 (C.y : Int)) (.int .i64 (C.k : Int)) (.int .i64 (C.dk : Int)) (.int .i64 (C.n : Int)) (.bool false) (.slice none 0 0) (.string C.s) (.slice none 0 0) (.slice none 0 0) (.int .i64 (C.er : Int))
      clear f0 f1 f2 f3 f4 f5 f6 f7 f8 f9 f10 d0 d1 d2 d3 d4 d5 d6 d7 d8 d9 d10
      generalize w2.alloc (.cells #[.int .i64 (C.x : Int), .int .i64 (C.y : Int), .int .i64 (C.k : Int), .int .i64 (C.dk : Int), .int .i64 (C.n : Int), .bool false, .slice none 0 0, .string C.s, .slice none 0 0, .slice none 0 0, .int .i64 (C.er : Int)] 50) = W5 at *
      generalize (((((((((((W5.setCell ⟨w.heap.size, 0, none⟩ (.int .i64 (C.x : Int))).setCell ⟨w.heap.size, 1, none⟩ (.int .i64 (C.y : Int))).setCell ⟨w.heap.size, 2, none⟩ (.int .i64 (C.k : Int))).setCell ⟨w.heap.size, 3, none⟩ (.int .i64 (C.dk : Int))).setCell ⟨w.heap.size, 4, none⟩ (.int .i64 (C.n : Int))).setCell ⟨w.heap.size, 5, none⟩ (.bool false)).setCell ⟨w.heap.size, 6, none⟩ (.slice none 0 0)).setCell ⟨w.heap.size, 7, none⟩ (.string C.s)).setCell ⟨w.heap.size, 8, none⟩ (.slice none 0 0)).setCell ⟨w.heap.size, 9, none⟩ (.slice none 0 0)).setCell ⟨w.heap.size, 10, none⟩ (.int .i64 (C.er : Int))) = W6 at *
      obtain ⟨d0, d1, d2, d3, d4, d5, d6, d7, d8, d9, d10⟩ := cells11 q1
      simp only [Exit.jump]
      refine bodyPost_ret (by simp [results, Tryd.results14, go_sem, d0, d1, d2, d3, d4, d5, d6, d7, d8, d9, d10]; rfl) rfl ?_
      obtain ⟨-, uA, hlt, hsz⟩ := HG.out
      rw [HPP.out]
      exact ⟨by simp [pcP, pcV], ⟨q2.up h5.up hsz, h5.ge, q2.old (Nat.ne_of_lt hlt) h5.cs⟩, Kr.join uA k5 q2 (Nat.le_refl _)⟩
  · intro KR
    go_wp2_with fail
    go_step3
    rename_i hK
    obtain ⟨hA, ha, hf, hP⟩ := H0.out
    refine hK _ _ (KR _ _ ?_)
    exact ⟨0, a, f, _, _, _, _, _, _, _, _, _, _, _, _, _, _, _, _, _, _, _, _, _, _, _, _, _, _, _, rfl, hA, Kr.refl _ _, ha, Nat.le_refl _, Nat.zero_le _, hf, hP⟩

end Go.Proofs.YteipogfolnlblaaDoor
