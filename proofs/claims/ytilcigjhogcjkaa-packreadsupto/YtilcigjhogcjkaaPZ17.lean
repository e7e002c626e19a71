/-
  What is proved here: the document's datum (package tandemref10): a datum of kind 4. the document's datum (package tandemref10): a datum of kind 5.
-/
import Derived.Test.YtilcigjhogcjkaaPZ11
namespace Go.Proofs.Ytilcigjhogcjkaa
open Go Go.RowKit

set_option maxRecDepth 20000 in
set_option maxHeartbeats 4000000 in
theorem ldat_4 {h : Nat} (w0 w : World) (rb p dp : Nat) (dep : Int) (l m : List Nat) (hr : RfS w0 w rb l false (p : Int)) (h8 : By8 l) (_hl : l.length ≤ 100000000) (hp : p ≤ 20000) (hp1 : 1 ≤ p) (hd : dp + 1 ≤ 100) (hdep : dep = 100 - (dp : Int)) (hn : rdNum l = some (4, m)) :
    Calls Try.prog 33 #[.pointer (some ⟨rb, 0, none⟩), .int .i64 dep] w fun e w' => okL w0 w rb w.heap.size (lrDat (h + 1) (dp + 1) l p) e w' := by
  obtain ⟨out, hout⟩ : ∃ o, o = lrDat (h + 1) (dp + 1) l p := ⟨_, rfl⟩
  rw [← hout]
  have hrb := hr.lt
  have hA0 := hr.mono (up_alloc w (.cells #[.int .i64 0, .int .i64 0, .bool false, .slice none 0 0, .string ⟨#[]⟩, .slice none 0 0, .slice none 0 0] 64))
  have x2 := hA0.k2
  have z2 := hA0.fz 2
  have hB1 := hA0.left ((p : Int) - 1)
  have x3 := hB1.k2
  have HD4 : Hid (DBx ((w.alloc (.cells #[.int .i64 0, .int .i64 0, .bool false, .slice none 0 0, .string ⟨#[]⟩, .slice none 0 0, .slice none 0 0] 64)).setCell ⟨rb, 2, none⟩ (.int .i64 ((p : Int) - 1))) w.heap.size (.int .i64 0) (.int .i64 0) (.bool false) (.slice none 0 0) (.string ⟨#[]⟩) (.slice none 0 0) (.slice none 0 0)) := (heap_setCell_other _ _ _ _ (show w.heap.size ≠ rb from by omega)).trans (heap_alloc_new w _)
  have HF0 : Hid (Fr (fun j => j = rb) w ((w.alloc (.cells #[.int .i64 0, .int .i64 0, .bool false, .slice none 0 0, .string ⟨#[]⟩, .slice none 0 0, .slice none 0 0] 64)).setCell ⟨rb, 2, none⟩ (.int .i64 ((p : Int) - 1)))) := ((Fr.refl (fun j => j = rb) w).alloc _).setCell (fun _ => rfl) _ _
  have HRB := hide hrb
  have g1 : ¬ ((p : Int) - 1 < 0) := by omega
  have g2 : ¬ (dep > 100) := by omega
  have K0 := hide ((lnum_any w0 _ rb l _ hB1 h8).mono (fun _ _ x => x.yes hn))
  have h8m := rdNum_by8 hn h8
  have HO : out = match rdTxt m with | none => none | some (t, m1) => some (((4 : Int), (0 : Int), false, [], t, [], []), m1, p - 1) := by
    rw [hout]
    simp only [lrDat, hn]
    rw [if_neg (by omega)]
    rfl
  rw [rdTxt_lr] at HO
  cases hm : rdNum m with
  | none =>
    rw [hm] at HO
    replace HO := hide HO
    have K1 := hide (fun (W : World) (h' : RfS w0 W rb m false ((p : Int) - 1)) => (lnum_any w0 W rb m _ h' h8m).mono (fun _ _ x => x.no hm))
    have KT := hide (fun (W : World) (k : Int) (l' : List Nat) (q' : Int) (h' : RfS w0 W rb l' true q') => ltake_bad w0 W rb k l' q' h')
    clear hr hrb hA0 hB1 h8 hn hout hm h8m
    go_enter Try.func33, Try.ntmps33
    go_wp2_with (first
      | (have hx := HR2; clear hx; go_at_call 29; refine (KT.out _ _ _ _ HR2.out).mono ?_; rintro e3 w3 ⟨rfl, hr3, F3⟩; have kc := conv_nil w3; have e5 := HD2.out.frr F3 (by have := HS1.out; have := HRB.out; omega); have f51 := e5.fz 4; have y51 := e5.k4; have S5 := e5.s4 (.string ⟨#[]⟩); have e4 := (HG2.out.frr F3 (by have := HS1.out; have := HRB.out; omega)).oo (g := w1.heap.size) (i := 4) (x := .string ⟨#[]⟩) (by have := HS1.out; have := HRB.out; omega); obtain ⟨⟨x90, x91, x92, x93, x94, x95, x96⟩, ⟨f90, y90⟩, ⟨f91, y91⟩, ⟨f92, y92⟩, ⟨f93, y93⟩, ⟨f94, y94⟩, ⟨f95, y95⟩, ⟨f96, y96⟩, ⟨kr0, kr1, kr2, kr3, kr4, kr5, kr6⟩⟩ := DBx.copyF S5 e4; have HR3 := hide (hr3.setO (g := w1.heap.size) (i := 4) (u := .string ⟨#[]⟩) (by have := HS1.out; have := HRB.out; omega)); have HF3 := hide ((HF2.out.trans F3 (fun _ _ e => e)).setCell (g := w1.heap.size) (fun e => by have := HS1.out; have := HRB.out; omega) 4 (.string ⟨#[]⟩)); have HD3 := hide S5; have HG3 := hide e4; clear F3 hr3 e5 e4 S5)
      | (have hx := HR1; clear hx; go_at_call 30; refine (K1.out _ HR1.out).mono ?_; rintro e2 w2 ⟨n2, hn2, rfl, F2, l2, q2, hr2⟩; have HD2 := hide (HD5.out.frr F2 (by have := HS1.out; have := HRB.out; omega)); have HG2 := hide (HG5.out.frr F2 (by have := HS1.out; have := HRB.out; omega)); have HR2 := hide hr2; have HF2 := hide (HF1.out.trans F2 (fun _ _ e => e)); clear F2 hr2)
      | (go_at_call 30; refine K0.out.mono ?_; rintro e1 w1 ⟨rfl, F1, hr1⟩; have d4 := (HD4.out.frr F1 (by have := HRB.out; omega)).al (.cells #[.int .i64 4, .int .i64 0, .bool false, .slice none 0 0, .string ⟨#[]⟩, .slice none 0 0, .slice none 0 0] 64); have d5 : DBx (w1.alloc (.cells #[.int .i64 4, .int .i64 0, .bool false, .slice none 0 0, .string ⟨#[]⟩, .slice none 0 0, .slice none 0 0] 64)) w1.heap.size (.int .i64 4) (.int .i64 0) (.bool false) (.slice none 0 0) (.string ⟨#[]⟩) (.slice none 0 0) (.slice none 0 0) := heap_alloc_new w1 _; have hs1 : w.heap.size < w1.heap.size := (HD4.out.frr F1 (by have := HRB.out; omega)).lt; have hr2 := hr1.mono (up_alloc w1 (.cells #[.int .i64 4, .int .i64 0, .bool false, .slice none 0 0, .string ⟨#[]⟩, .slice none 0 0, .slice none 0 0] 64)); have b1 := hr2.k1; have zz1 := hr2.fz 1; have x10 := d5.k0; have HS1 : Hid (w.heap.size < w1.heap.size) := hs1; have HR1 := hide hr2; have HD5 := hide d5; have HG5 := hide d4; have HF1 := hide ((HF0.out.trans F1 (fun _ _ e => e)).alloc (.cells #[.int .i64 4, .int .i64 0, .bool false, .slice none 0 0, .string ⟨#[]⟩, .slice none 0 0, .slice none 0 0] 64)); clear F1 hr1 hr2 d4 d5 hs1))
    refine bodyPost_ret (by simp [results, Try.results33, go_sem, kr0, kr1, kr2, kr3, kr4, kr5, kr6]; rfl) rfl ?_
    exact okL.mkno HO.out (LB.set7 HF3.out HR3.out HRB.out (Nat.le_refl _) _ _ _ _ _ _ _) rfl
  | some y =>
    obtain ⟨n, m1⟩ := y
    rw [hm] at HO
    simp only at HO
    have h81 := rdNum_by8 hm h8m
    have hnl := rdNum_le hm
    have K1 := hide (fun (W : World) (h' : RfS w0 W rb m false ((p : Int) - 1)) => (lnum_any w0 W rb m _ h' h8m).mono (fun _ _ x => x.yes hm))
    by_cases hq : n ≤ m1.length
    rotate_left
    · rw [if_neg hq] at HO
      replace HO := hide HO
      have KT := hide (fun (W : World) (h' : RfS w0 W rb m1 false ((p : Int) - 1)) => ltake_no w0 W rb n m1 _ h' (by omega))
      clear hr hrb hA0 hB1 h8 hn hout hm h8m h81
      go_enter Try.func33, Try.ntmps33
      go_wp2_with (first
        | (have hx := HR2; clear hx; go_at_call 29; refine (KT.out _ HR2.out).mono ?_; rintro e3 w3 ⟨rfl, hr3, F3⟩; have kc := conv_nil w3; have e5 := HD2.out.frr F3 (by have := HS1.out; have := HRB.out; omega); have f51 := e5.fz 4; have y51 := e5.k4; have S5 := e5.s4 (.string ⟨#[]⟩); have e4 := (HG2.out.frr F3 (by have := HS1.out; have := HRB.out; omega)).oo (g := w1.heap.size) (i := 4) (x := .string ⟨#[]⟩) (by have := HS1.out; have := HRB.out; omega); obtain ⟨⟨x90, x91, x92, x93, x94, x95, x96⟩, ⟨f90, y90⟩, ⟨f91, y91⟩, ⟨f92, y92⟩, ⟨f93, y93⟩, ⟨f94, y94⟩, ⟨f95, y95⟩, ⟨f96, y96⟩, ⟨kr0, kr1, kr2, kr3, kr4, kr5, kr6⟩⟩ := DBx.copyF S5 e4; have HR3 := hide (hr3.setO (g := w1.heap.size) (i := 4) (u := .string ⟨#[]⟩) (by have := HS1.out; have := HRB.out; omega)); have HF3 := hide ((HF2.out.trans F3 (fun _ _ e => e)).setCell (g := w1.heap.size) (fun e => by have := HS1.out; have := HRB.out; omega) 4 (.string ⟨#[]⟩)); have HD3 := hide S5; have HG3 := hide e4; clear F3 hr3 e5 e4 S5)
        | (have hx := HR1; clear hx; go_at_call 30; refine (K1.out _ HR1.out).mono ?_; rintro e2 w2 ⟨rfl, F2, hr2⟩; have HD2 := hide (HD5.out.frr F2 (by have := HS1.out; have := HRB.out; omega)); have HG2 := hide (HG5.out.frr F2 (by have := HS1.out; have := HRB.out; omega)); have HR2 := hide hr2; have HF2 := hide (HF1.out.trans F2 (fun _ _ e => e)); clear F2 hr2)
        | (go_at_call 30; refine K0.out.mono ?_; rintro e1 w1 ⟨rfl, F1, hr1⟩; have d4 := (HD4.out.frr F1 (by have := HRB.out; omega)).al (.cells #[.int .i64 4, .int .i64 0, .bool false, .slice none 0 0, .string ⟨#[]⟩, .slice none 0 0, .slice none 0 0] 64); have d5 : DBx (w1.alloc (.cells #[.int .i64 4, .int .i64 0, .bool false, .slice none 0 0, .string ⟨#[]⟩, .slice none 0 0, .slice none 0 0] 64)) w1.heap.size (.int .i64 4) (.int .i64 0) (.bool false) (.slice none 0 0) (.string ⟨#[]⟩) (.slice none 0 0) (.slice none 0 0) := heap_alloc_new w1 _; have hs1 : w.heap.size < w1.heap.size := (HD4.out.frr F1 (by have := HRB.out; omega)).lt; have hr2 := hr1.mono (up_alloc w1 (.cells #[.int .i64 4, .int .i64 0, .bool false, .slice none 0 0, .string ⟨#[]⟩, .slice none 0 0, .slice none 0 0] 64)); have b1 := hr2.k1; have zz1 := hr2.fz 1; have x10 := d5.k0; have HS1 : Hid (w.heap.size < w1.heap.size) := hs1; have HR1 := hide hr2; have HD5 := hide d5; have HG5 := hide d4; have HF1 := hide ((HF0.out.trans F1 (fun _ _ e => e)).alloc (.cells #[.int .i64 4, .int .i64 0, .bool false, .slice none 0 0, .string ⟨#[]⟩, .slice none 0 0, .slice none 0 0] 64)); clear F1 hr1 hr2 d4 d5 hs1))
      refine bodyPost_ret (by simp [results, Try.results33, go_sem, kr0, kr1, kr2, kr3, kr4, kr5, kr6]; rfl) rfl ?_
      exact okL.mkno HO.out (LB.set7 HF3.out HR3.out HRB.out (Nat.le_refl _) _ _ _ _ _ _ _) rfl
    · rw [if_pos hq] at HO
      replace HO := hide HO
      have KT := hide (fun (W : World) (h' : RfS w0 W rb m1 false ((p : Int) - 1)) => ltake_yes w0 W rb n m1 _ h' hq)
      clear hr hrb hA0 hB1 h8 hn hout hm h8m h81
      go_enter Try.func33, Try.ntmps33
      go_wp2_with (first
        | (have hx := HR2; clear hx; go_at_call 29; refine (KT.out _ HR2.out).mono ?_; rintro e3 w3 ⟨v3, rfl, hb3, hr3, F3⟩; have kc := BL.convO hb3 hr3; have e5 := HD2.out.frr F3 (by have := HS1.out; have := HRB.out; omega); have f51 := e5.fz 4; have y51 := e5.k4; have S5 := e5.s4 (.string (strL (m1.take n))); have e4 := (HG2.out.frr F3 (by have := HS1.out; have := HRB.out; omega)).oo (g := w1.heap.size) (i := 4) (x := .string (strL (m1.take n))) (by have := HS1.out; have := HRB.out; omega); obtain ⟨⟨x90, x91, x92, x93, x94, x95, x96⟩, ⟨f90, y90⟩, ⟨f91, y91⟩, ⟨f92, y92⟩, ⟨f93, y93⟩, ⟨f94, y94⟩, ⟨f95, y95⟩, ⟨f96, y96⟩, ⟨kr0, kr1, kr2, kr3, kr4, kr5, kr6⟩⟩ := DBx.copyF S5 e4; have HR3 := hide (hr3.setO (g := w1.heap.size) (i := 4) (u := .string (strL (m1.take n))) (by have := HS1.out; have := HRB.out; omega)); have HF3 := hide ((HF2.out.trans F3 (fun _ _ e => e)).setCell (g := w1.heap.size) (fun e => by have := HS1.out; have := HRB.out; omega) 4 (.string (strL (m1.take n)))); have HD3 := hide S5; have HG3 := hide e4; clear F3 hr3 e5 e4 S5 hb3)
        | (have hx := HR1; clear hx; go_at_call 30; refine (K1.out _ HR1.out).mono ?_; rintro e2 w2 ⟨rfl, F2, hr2⟩; have HD2 := hide (HD5.out.frr F2 (by have := HS1.out; have := HRB.out; omega)); have HG2 := hide (HG5.out.frr F2 (by have := HS1.out; have := HRB.out; omega)); have HR2 := hide hr2; have HF2 := hide (HF1.out.trans F2 (fun _ _ e => e)); clear F2 hr2)
        | (go_at_call 30; refine K0.out.mono ?_; rintro e1 w1 ⟨rfl, F1, hr1⟩; have d4 := (HD4.out.frr F1 (by have := HRB.out; omega)).al (.cells #[.int .i64 4, .int .i64 0, .bool false, .slice none 0 0, .string ⟨#[]⟩, .slice none 0 0, .slice none 0 0] 64); have d5 : DBx (w1.alloc (.cells #[.int .i64 4, .int .i64 0, .bool false, .slice none 0 0, .string ⟨#[]⟩, .slice none 0 0, .slice none 0 0] 64)) w1.heap.size (.int .i64 4) (.int .i64 0) (.bool false) (.slice none 0 0) (.string ⟨#[]⟩) (.slice none 0 0) (.slice none 0 0) := heap_alloc_new w1 _; have hs1 : w.heap.size < w1.heap.size := (HD4.out.frr F1 (by have := HRB.out; omega)).lt; have hr2 := hr1.mono (up_alloc w1 (.cells #[.int .i64 4, .int .i64 0, .bool false, .slice none 0 0, .string ⟨#[]⟩, .slice none 0 0, .slice none 0 0] 64)); have b1 := hr2.k1; have zz1 := hr2.fz 1; have x10 := d5.k0; have HS1 : Hid (w.heap.size < w1.heap.size) := hs1; have HR1 := hide hr2; have HD5 := hide d5; have HG5 := hide d4; have HF1 := hide ((HF0.out.trans F1 (fun _ _ e => e)).alloc (.cells #[.int .i64 4, .int .i64 0, .bool false, .slice none 0 0, .string ⟨#[]⟩, .slice none 0 0, .slice none 0 0] 64)); clear F1 hr1 hr2 d4 d5 hs1))
      refine bodyPost_ret (by simp [results, Try.results33, go_sem, kr0, kr1, kr2, kr3, kr4, kr5, kr6]; rfl) rfl ?_
      have eq : (p : Int) - 1 = ((p - 1 : Nat) : Int) := by omega
      refine okL.mkyes HO.out rfl ?_ ⟨set7_fr HF3.out (Nat.le_refl _) _ _ _ _ _ _ _, ?_⟩
      · exact ⟨_, _, _, rfl, by decide, nilSl _, (fun i hi => by cases hi), nilRow _ _, nilRow _ _, .inl rfl, .inl rfl, .inl rfl⟩
      · rw [← eq]
        exact HR3.out.set7 HRB.out _ _ _ _ _ _ _

set_option maxRecDepth 20000 in
set_option maxHeartbeats 4000000 in
theorem ldat_5 {h : Nat} (w0 w : World) (rb p dp : Nat) (dep : Int) (l m : List Nat) (hr : RfS w0 w rb l false (p : Int)) (h8 : By8 l) (_hl : l.length ≤ 100000000) (hp : p ≤ 20000) (hp1 : 1 ≤ p) (hd : dp + 1 ≤ 100) (hdep : dep = 100 - (dp : Int)) (hn : rdNum l = some (5, m)) :
    Calls Try.prog 33 #[.pointer (some ⟨rb, 0, none⟩), .int .i64 dep] w fun e w' => okL w0 w rb w.heap.size (lrDat (h + 1) (dp + 1) l p) e w' := by
  obtain ⟨out, hout⟩ : ∃ o, o = lrDat (h + 1) (dp + 1) l p := ⟨_, rfl⟩
  rw [← hout]
  have hrb := hr.lt
  have hA0 := hr.mono (up_alloc w (.cells #[.int .i64 0, .int .i64 0, .bool false, .slice none 0 0, .string ⟨#[]⟩, .slice none 0 0, .slice none 0 0] 64))
  have x2 := hA0.k2
  have z2 := hA0.fz 2
  have hB1 := hA0.left ((p : Int) - 1)
  have x3 := hB1.k2
  have HD4 : Hid (DBx ((w.alloc (.cells #[.int .i64 0, .int .i64 0, .bool false, .slice none 0 0, .string ⟨#[]⟩, .slice none 0 0, .slice none 0 0] 64)).setCell ⟨rb, 2, none⟩ (.int .i64 ((p : Int) - 1))) w.heap.size (.int .i64 0) (.int .i64 0) (.bool false) (.slice none 0 0) (.string ⟨#[]⟩) (.slice none 0 0) (.slice none 0 0)) := (heap_setCell_other _ _ _ _ (show w.heap.size ≠ rb from by omega)).trans (heap_alloc_new w _)
  have HF0 : Hid (Fr (fun j => j = rb) w ((w.alloc (.cells #[.int .i64 0, .int .i64 0, .bool false, .slice none 0 0, .string ⟨#[]⟩, .slice none 0 0, .slice none 0 0] 64)).setCell ⟨rb, 2, none⟩ (.int .i64 ((p : Int) - 1)))) := ((Fr.refl (fun j => j = rb) w).alloc _).setCell (fun _ => rfl) _ _
  have HRB := hide hrb
  have g1 : ¬ ((p : Int) - 1 < 0) := by omega
  have g2 : ¬ (dep > 100) := by omega
  have K0 := hide ((lnum_any w0 _ rb l _ hB1 h8).mono (fun _ _ x => x.yes hn))
  have h8m := rdNum_by8 hn h8
  have HO : out = match rdTxt m with | none => none | some (t, m1) => (match rdSgn m1 with | none => none | some (n, m') => some (((5 : Int), n, false, [], t, [], []), m', p - 1)) := by
    rw [hout]
    simp only [lrDat, hn]
    rw [if_neg (by omega)]
    rfl
  rw [rdTxt_lr] at HO
  cases hm : rdNum m with
  | none =>
    rw [hm] at HO
    replace HO := hide HO
    have K1 := hide (fun (W : World) (h' : RfS w0 W rb m false ((p : Int) - 1)) => (lnum_any w0 W rb m _ h' h8m).mono (fun _ _ x => x.no hm))
    have KT := hide (fun (W : World) (k : Int) (l' : List Nat) (q' : Int) (h' : RfS w0 W rb l' true q') => ltake_bad w0 W rb k l' q' h')
    have K4 := hide (fun (W : World) (l' : List Nat) (q' : Int) (h' : RfS w0 W rb l' true q') => lsgn_bad w0 W rb l' q' h')
    clear hr hrb hA0 hB1 h8 hn hout hm h8m
    go_enter Try.func33, Try.ntmps33
    go_wp2_with (first
      | (have hx := HR3; clear hx; go_at_call 32; refine (K4.out _ _ _ HR3.out).mono ?_; rintro e4 w4 ⟨s4, rfl, F4, l4, q4, hr4⟩; have e5 := HD3.out.frr F4 (by have := HS1.out; have := HRB.out; omega); have f61 := e5.fz 1; have y61 := e5.k1; have S6 := e5.s1 (.int .i64 s4); have e4 := (HG3.out.frr F4 (by have := HS1.out; have := HRB.out; omega)).oo (g := w1.heap.size) (i := 1) (x := .int .i64 s4) (by have := HS1.out; have := HRB.out; omega); obtain ⟨⟨x90, x91, x92, x93, x94, x95, x96⟩, ⟨f90, y90⟩, ⟨f91, y91⟩, ⟨f92, y92⟩, ⟨f93, y93⟩, ⟨f94, y94⟩, ⟨f95, y95⟩, ⟨f96, y96⟩, ⟨kr0, kr1, kr2, kr3, kr4, kr5, kr6⟩⟩ := DBx.copyF S6 e4; have HR4 := hide (hr4.setO (g := w1.heap.size) (i := 1) (u := .int .i64 s4) (by have := HS1.out; have := HRB.out; omega)); have HF4 := hide ((HF3.out.trans F4 (fun _ _ e => e)).setCell (g := w1.heap.size) (fun e => by have := HS1.out; have := HRB.out; omega) 1 (.int .i64 s4)); clear F4 hr4 e5 e4 S6)
      | (have hx := HR2; clear hx; go_at_call 29; refine (KT.out _ _ _ _ HR2.out).mono ?_; rintro e3 w3 ⟨rfl, hr3, F3⟩; have kc := conv_nil w3; have e5 := HD2.out.frr F3 (by have := HS1.out; have := HRB.out; omega); have f51 := e5.fz 4; have y51 := e5.k4; have S5 := e5.s4 (.string ⟨#[]⟩); have e4 := (HG2.out.frr F3 (by have := HS1.out; have := HRB.out; omega)).oo (g := w1.heap.size) (i := 4) (x := .string ⟨#[]⟩) (by have := HS1.out; have := HRB.out; omega); have HR3 := hide (hr3.setO (g := w1.heap.size) (i := 4) (u := .string ⟨#[]⟩) (by have := HS1.out; have := HRB.out; omega)); have HF3 := hide ((HF2.out.trans F3 (fun _ _ e => e)).setCell (g := w1.heap.size) (fun e => by have := HS1.out; have := HRB.out; omega) 4 (.string ⟨#[]⟩)); have HD3 := hide S5; have HG3 := hide e4; clear F3 hr3 e5 e4 S5)
      | (have hx := HR1; clear hx; go_at_call 30; refine (K1.out _ HR1.out).mono ?_; rintro e2 w2 ⟨n2, hn2, rfl, F2, l2, q2, hr2⟩; have HD2 := hide (HD5.out.frr F2 (by have := HS1.out; have := HRB.out; omega)); have HG2 := hide (HG5.out.frr F2 (by have := HS1.out; have := HRB.out; omega)); have HR2 := hide hr2; have HF2 := hide (HF1.out.trans F2 (fun _ _ e => e)); clear F2 hr2)
      | (go_at_call 30; refine K0.out.mono ?_; rintro e1 w1 ⟨rfl, F1, hr1⟩; have d4 := (HD4.out.frr F1 (by have := HRB.out; omega)).al (.cells #[.int .i64 5, .int .i64 0, .bool false, .slice none 0 0, .string ⟨#[]⟩, .slice none 0 0, .slice none 0 0] 64); have d5 : DBx (w1.alloc (.cells #[.int .i64 5, .int .i64 0, .bool false, .slice none 0 0, .string ⟨#[]⟩, .slice none 0 0, .slice none 0 0] 64)) w1.heap.size (.int .i64 5) (.int .i64 0) (.bool false) (.slice none 0 0) (.string ⟨#[]⟩) (.slice none 0 0) (.slice none 0 0) := heap_alloc_new w1 _; have hs1 : w.heap.size < w1.heap.size := (HD4.out.frr F1 (by have := HRB.out; omega)).lt; have hr2 := hr1.mono (up_alloc w1 (.cells #[.int .i64 5, .int .i64 0, .bool false, .slice none 0 0, .string ⟨#[]⟩, .slice none 0 0, .slice none 0 0] 64)); have b1 := hr2.k1; have zz1 := hr2.fz 1; have x10 := d5.k0; have HS1 : Hid (w.heap.size < w1.heap.size) := hs1; have HR1 := hide hr2; have HD5 := hide d5; have HG5 := hide d4; have HF1 := hide ((HF0.out.trans F1 (fun _ _ e => e)).alloc (.cells #[.int .i64 5, .int .i64 0, .bool false, .slice none 0 0, .string ⟨#[]⟩, .slice none 0 0, .slice none 0 0] 64)); clear F1 hr1 hr2 d4 d5 hs1))
    refine bodyPost_ret (by simp [results, Try.results33, go_sem, kr0, kr1, kr2, kr3, kr4, kr5, kr6]; rfl) rfl ?_
    exact okL.mkno HO.out (LB.set7 HF4.out HR4.out HRB.out (Nat.le_refl _) _ _ _ _ _ _ _) rfl
  | some y =>
    obtain ⟨n, m1⟩ := y
    rw [hm] at HO
    simp only at HO
    have h81 := rdNum_by8 hm h8m
    have hnl := rdNum_le hm
    have K1 := hide (fun (W : World) (h' : RfS w0 W rb m false ((p : Int) - 1)) => (lnum_any w0 W rb m _ h' h8m).mono (fun _ _ x => x.yes hm))
    by_cases hq : n ≤ m1.length
    rotate_left
    · rw [if_neg hq] at HO
      replace HO := hide HO
      have KT := hide (fun (W : World) (h' : RfS w0 W rb m1 false ((p : Int) - 1)) => ltake_no w0 W rb n m1 _ h' (by omega))
      have K4 := hide (fun (W : World) (l' : List Nat) (q' : Int) (h' : RfS w0 W rb l' true q') => lsgn_bad w0 W rb l' q' h')
      clear hr hrb hA0 hB1 h8 hn hout hm h8m h81
      go_enter Try.func33, Try.ntmps33
      go_wp2_with (first
        | (have hx := HR3; clear hx; go_at_call 32; refine (K4.out _ _ _ HR3.out).mono ?_; rintro e4 w4 ⟨s4, rfl, F4, l4, q4, hr4⟩; have e5 := HD3.out.frr F4 (by have := HS1.out; have := HRB.out; omega); have f61 := e5.fz 1; have y61 := e5.k1; have S6 := e5.s1 (.int .i64 s4); have e4 := (HG3.out.frr F4 (by have := HS1.out; have := HRB.out; omega)).oo (g := w1.heap.size) (i := 1) (x := .int .i64 s4) (by have := HS1.out; have := HRB.out; omega); obtain ⟨⟨x90, x91, x92, x93, x94, x95, x96⟩, ⟨f90, y90⟩, ⟨f91, y91⟩, ⟨f92, y92⟩, ⟨f93, y93⟩, ⟨f94, y94⟩, ⟨f95, y95⟩, ⟨f96, y96⟩, ⟨kr0, kr1, kr2, kr3, kr4, kr5, kr6⟩⟩ := DBx.copyF S6 e4; have HR4 := hide (hr4.setO (g := w1.heap.size) (i := 1) (u := .int .i64 s4) (by have := HS1.out; have := HRB.out; omega)); have HF4 := hide ((HF3.out.trans F4 (fun _ _ e => e)).setCell (g := w1.heap.size) (fun e => by have := HS1.out; have := HRB.out; omega) 1 (.int .i64 s4)); clear F4 hr4 e5 e4 S6)
        | (have hx := HR2; clear hx; go_at_call 29; refine (KT.out _ HR2.out).mono ?_; rintro e3 w3 ⟨rfl, hr3, F3⟩; have kc := conv_nil w3; have e5 := HD2.out.frr F3 (by have := HS1.out; have := HRB.out; omega); have f51 := e5.fz 4; have y51 := e5.k4; have S5 := e5.s4 (.string ⟨#[]⟩); have e4 := (HG2.out.frr F3 (by have := HS1.out; have := HRB.out; omega)).oo (g := w1.heap.size) (i := 4) (x := .string ⟨#[]⟩) (by have := HS1.out; have := HRB.out; omega); have HR3 := hide (hr3.setO (g := w1.heap.size) (i := 4) (u := .string ⟨#[]⟩) (by have := HS1.out; have := HRB.out; omega)); have HF3 := hide ((HF2.out.trans F3 (fun _ _ e => e)).setCell (g := w1.heap.size) (fun e => by have := HS1.out; have := HRB.out; omega) 4 (.string ⟨#[]⟩)); have HD3 := hide S5; have HG3 := hide e4; clear F3 hr3 e5 e4 S5)
        | (have hx := HR1; clear hx; go_at_call 30; refine (K1.out _ HR1.out).mono ?_; rintro e2 w2 ⟨rfl, F2, hr2⟩; have HD2 := hide (HD5.out.frr F2 (by have := HS1.out; have := HRB.out; omega)); have HG2 := hide (HG5.out.frr F2 (by have := HS1.out; have := HRB.out; omega)); have HR2 := hide hr2; have HF2 := hide (HF1.out.trans F2 (fun _ _ e => e)); clear F2 hr2)
        | (go_at_call 30; refine K0.out.mono ?_; rintro e1 w1 ⟨rfl, F1, hr1⟩; have d4 := (HD4.out.frr F1 (by have := HRB.out; omega)).al (.cells #[.int .i64 5, .int .i64 0, .bool false, .slice none 0 0, .string ⟨#[]⟩, .slice none 0 0, .slice none 0 0] 64); have d5 : DBx (w1.alloc (.cells #[.int .i64 5, .int .i64 0, .bool false, .slice none 0 0, .string ⟨#[]⟩, .slice none 0 0, .slice none 0 0] 64)) w1.heap.size (.int .i64 5) (.int .i64 0) (.bool false) (.slice none 0 0) (.string ⟨#[]⟩) (.slice none 0 0) (.slice none 0 0) := heap_alloc_new w1 _; have hs1 : w.heap.size < w1.heap.size := (HD4.out.frr F1 (by have := HRB.out; omega)).lt; have hr2 := hr1.mono (up_alloc w1 (.cells #[.int .i64 5, .int .i64 0, .bool false, .slice none 0 0, .string ⟨#[]⟩, .slice none 0 0, .slice none 0 0] 64)); have b1 := hr2.k1; have zz1 := hr2.fz 1; have x10 := d5.k0; have HS1 : Hid (w.heap.size < w1.heap.size) := hs1; have HR1 := hide hr2; have HD5 := hide d5; have HG5 := hide d4; have HF1 := hide ((HF0.out.trans F1 (fun _ _ e => e)).alloc (.cells #[.int .i64 5, .int .i64 0, .bool false, .slice none 0 0, .string ⟨#[]⟩, .slice none 0 0, .slice none 0 0] 64)); clear F1 hr1 hr2 d4 d5 hs1))
      refine bodyPost_ret (by simp [results, Try.results33, go_sem, kr0, kr1, kr2, kr3, kr4, kr5, kr6]; rfl) rfl ?_
      exact okL.mkno HO.out (LB.set7 HF4.out HR4.out HRB.out (Nat.le_refl _) _ _ _ _ _ _ _) rfl
    · rw [if_pos hq] at HO
      simp only at HO
      cases hs : rdSgn (m1.drop n) with
      | none =>
        have hnm : rdNum (m1.drop n) = none := by
          unfold rdSgn at hs
          split at hs
          · assumption
          · cases hs
        rw [hs] at HO
        replace HO := hide HO
        have KT := hide (fun (W : World) (h' : RfS w0 W rb m1 false ((p : Int) - 1)) => ltake_yes w0 W rb n m1 _ h' hq)
        have K4 := hide (fun (W : World) (h' : RfS w0 W rb (m1.drop n) false ((p : Int) - 1)) => lsgn_no w0 W rb (m1.drop n) _ h' (h81.suf (List.drop_suffix _ _)) hnm)
        clear hr hrb hA0 hB1 h8 hn hout hm h8m h81 hs hnm
        go_enter Try.func33, Try.ntmps33
        go_wp2_with (first
          | (have hx := HR3; clear hx; go_at_call 32; refine (K4.out _ HR3.out).mono ?_; rintro e4 w4 ⟨s4, rfl, F4, l4, q4, hr4⟩; have e5 := HD3.out.frr F4 (by have := HS1.out; have := HRB.out; omega); have f61 := e5.fz 1; have y61 := e5.k1; have S6 := e5.s1 (.int .i64 s4); have e4 := (HG3.out.frr F4 (by have := HS1.out; have := HRB.out; omega)).oo (g := w1.heap.size) (i := 1) (x := .int .i64 s4) (by have := HS1.out; have := HRB.out; omega); obtain ⟨⟨x90, x91, x92, x93, x94, x95, x96⟩, ⟨f90, y90⟩, ⟨f91, y91⟩, ⟨f92, y92⟩, ⟨f93, y93⟩, ⟨f94, y94⟩, ⟨f95, y95⟩, ⟨f96, y96⟩, ⟨kr0, kr1, kr2, kr3, kr4, kr5, kr6⟩⟩ := DBx.copyF S6 e4; have HR4 := hide (hr4.setO (g := w1.heap.size) (i := 1) (u := .int .i64 s4) (by have := HS1.out; have := HRB.out; omega)); have HF4 := hide ((HF3.out.trans F4 (fun _ _ e => e)).setCell (g := w1.heap.size) (fun e => by have := HS1.out; have := HRB.out; omega) 1 (.int .i64 s4)); clear F4 hr4 e5 e4 S6)
          | (have hx := HR2; clear hx; go_at_call 29; refine (KT.out _ HR2.out).mono ?_; rintro e3 w3 ⟨v3, rfl, hb3, hr3, F3⟩; have kc := BL.convO hb3 hr3; have e5 := HD2.out.frr F3 (by have := HS1.out; have := HRB.out; omega); have f51 := e5.fz 4; have y51 := e5.k4; have S5 := e5.s4 (.string (strL (m1.take n))); have e4 := (HG2.out.frr F3 (by have := HS1.out; have := HRB.out; omega)).oo (g := w1.heap.size) (i := 4) (x := .string (strL (m1.take n))) (by have := HS1.out; have := HRB.out; omega); have HR3 := hide (hr3.setO (g := w1.heap.size) (i := 4) (u := .string (strL (m1.take n))) (by have := HS1.out; have := HRB.out; omega)); have HF3 := hide ((HF2.out.trans F3 (fun _ _ e => e)).setCell (g := w1.heap.size) (fun e => by have := HS1.out; have := HRB.out; omega) 4 (.string (strL (m1.take n)))); have HD3 := hide S5; have HG3 := hide e4; clear F3 hr3 e5 e4 S5 hb3)
          | (have hx := HR1; clear hx; go_at_call 30; refine (K1.out _ HR1.out).mono ?_; rintro e2 w2 ⟨rfl, F2, hr2⟩; have HD2 := hide (HD5.out.frr F2 (by have := HS1.out; have := HRB.out; omega)); have HG2 := hide (HG5.out.frr F2 (by have := HS1.out; have := HRB.out; omega)); have HR2 := hide hr2; have HF2 := hide (HF1.out.trans F2 (fun _ _ e => e)); clear F2 hr2)
          | (go_at_call 30; refine K0.out.mono ?_; rintro e1 w1 ⟨rfl, F1, hr1⟩; have d4 := (HD4.out.frr F1 (by have := HRB.out; omega)).al (.cells #[.int .i64 5, .int .i64 0, .bool false, .slice none 0 0, .string ⟨#[]⟩, .slice none 0 0, .slice none 0 0] 64); have d5 : DBx (w1.alloc (.cells #[.int .i64 5, .int .i64 0, .bool false, .slice none 0 0, .string ⟨#[]⟩, .slice none 0 0, .slice none 0 0] 64)) w1.heap.size (.int .i64 5) (.int .i64 0) (.bool false) (.slice none 0 0) (.string ⟨#[]⟩) (.slice none 0 0) (.slice none 0 0) := heap_alloc_new w1 _; have hs1 : w.heap.size < w1.heap.size := (HD4.out.frr F1 (by have := HRB.out; omega)).lt; have hr2 := hr1.mono (up_alloc w1 (.cells #[.int .i64 5, .int .i64 0, .bool false, .slice none 0 0, .string ⟨#[]⟩, .slice none 0 0, .slice none 0 0] 64)); have b1 := hr2.k1; have zz1 := hr2.fz 1; have x10 := d5.k0; have HS1 : Hid (w.heap.size < w1.heap.size) := hs1; have HR1 := hide hr2; have HD5 := hide d5; have HG5 := hide d4; have HF1 := hide ((HF0.out.trans F1 (fun _ _ e => e)).alloc (.cells #[.int .i64 5, .int .i64 0, .bool false, .slice none 0 0, .string ⟨#[]⟩, .slice none 0 0, .slice none 0 0] 64)); clear F1 hr1 hr2 d4 d5 hs1))
        refine bodyPost_ret (by simp [results, Try.results33, go_sem, kr0, kr1, kr2, kr3, kr4, kr5, kr6]; rfl) rfl ?_
        exact okL.mkno HO.out (LB.set7 HF4.out HR4.out HRB.out (Nat.le_refl _) _ _ _ _ _ _ _) rfl
      | some z =>
        obtain ⟨s, m2⟩ := z
        have hrng := sgn_rng hs
        rw [hs] at HO
        replace HO := hide HO
        have KT := hide (fun (W : World) (h' : RfS w0 W rb m1 false ((p : Int) - 1)) => ltake_yes w0 W rb n m1 _ h' hq)
        have K4 := hide (fun (W : World) (h' : RfS w0 W rb (m1.drop n) false ((p : Int) - 1)) => lsgn_yes w0 W rb (m1.drop n) m2 s _ h' (h81.suf (List.drop_suffix _ _)) hs)
        clear hr hrb hA0 hB1 h8 hn hout hm h8m h81 hs
        go_enter Try.func33, Try.ntmps33
        go_wp2_with (first
          | (have hx := HR3; clear hx; go_at_call 32; refine (K4.out _ HR3.out).mono ?_; rintro e4 w4 ⟨rfl, F4, hr4⟩; have e5 := HD3.out.frr F4 (by have := HS1.out; have := HRB.out; omega); have f61 := e5.fz 1; have y61 := e5.k1; have S6 := e5.s1 (.int .i64 s); have e4 := (HG3.out.frr F4 (by have := HS1.out; have := HRB.out; omega)).oo (g := w1.heap.size) (i := 1) (x := .int .i64 s) (by have := HS1.out; have := HRB.out; omega); obtain ⟨⟨x90, x91, x92, x93, x94, x95, x96⟩, ⟨f90, y90⟩, ⟨f91, y91⟩, ⟨f92, y92⟩, ⟨f93, y93⟩, ⟨f94, y94⟩, ⟨f95, y95⟩, ⟨f96, y96⟩, ⟨kr0, kr1, kr2, kr3, kr4, kr5, kr6⟩⟩ := DBx.copyF S6 e4; have HR4 := hide (hr4.setO (g := w1.heap.size) (i := 1) (u := .int .i64 s) (by have := HS1.out; have := HRB.out; omega)); have HF4 := hide ((HF3.out.trans F4 (fun _ _ e => e)).setCell (g := w1.heap.size) (fun e => by have := HS1.out; have := HRB.out; omega) 1 (.int .i64 s)); clear F4 hr4 e5 e4 S6)
          | (have hx := HR2; clear hx; go_at_call 29; refine (KT.out _ HR2.out).mono ?_; rintro e3 w3 ⟨v3, rfl, hb3, hr3, F3⟩; have kc := BL.convO hb3 hr3; have e5 := HD2.out.frr F3 (by have := HS1.out; have := HRB.out; omega); have f51 := e5.fz 4; have y51 := e5.k4; have S5 := e5.s4 (.string (strL (m1.take n))); have e4 := (HG2.out.frr F3 (by have := HS1.out; have := HRB.out; omega)).oo (g := w1.heap.size) (i := 4) (x := .string (strL (m1.take n))) (by have := HS1.out; have := HRB.out; omega); have HR3 := hide (hr3.setO (g := w1.heap.size) (i := 4) (u := .string (strL (m1.take n))) (by have := HS1.out; have := HRB.out; omega)); have HF3 := hide ((HF2.out.trans F3 (fun _ _ e => e)).setCell (g := w1.heap.size) (fun e => by have := HS1.out; have := HRB.out; omega) 4 (.string (strL (m1.take n)))); have HD3 := hide S5; have HG3 := hide e4; clear F3 hr3 e5 e4 S5 hb3)
          | (have hx := HR1; clear hx; go_at_call 30; refine (K1.out _ HR1.out).mono ?_; rintro e2 w2 ⟨rfl, F2, hr2⟩; have HD2 := hide (HD5.out.frr F2 (by have := HS1.out; have := HRB.out; omega)); have HG2 := hide (HG5.out.frr F2 (by have := HS1.out; have := HRB.out; omega)); have HR2 := hide hr2; have HF2 := hide (HF1.out.trans F2 (fun _ _ e => e)); clear F2 hr2)
          | (go_at_call 30; refine K0.out.mono ?_; rintro e1 w1 ⟨rfl, F1, hr1⟩; have d4 := (HD4.out.frr F1 (by have := HRB.out; omega)).al (.cells #[.int .i64 5, .int .i64 0, .bool false, .slice none 0 0, .string ⟨#[]⟩, .slice none 0 0, .slice none 0 0] 64); have d5 : DBx (w1.alloc (.cells #[.int .i64 5, .int .i64 0, .bool false, .slice none 0 0, .string ⟨#[]⟩, .slice none 0 0, .slice none 0 0] 64)) w1.heap.size (.int .i64 5) (.int .i64 0) (.bool false) (.slice none 0 0) (.string ⟨#[]⟩) (.slice none 0 0) (.slice none 0 0) := heap_alloc_new w1 _; have hs1 : w.heap.size < w1.heap.size := (HD4.out.frr F1 (by have := HRB.out; omega)).lt; have hr2 := hr1.mono (up_alloc w1 (.cells #[.int .i64 5, .int .i64 0, .bool false, .slice none 0 0, .string ⟨#[]⟩, .slice none 0 0, .slice none 0 0] 64)); have b1 := hr2.k1; have zz1 := hr2.fz 1; have x10 := d5.k0; have HS1 : Hid (w.heap.size < w1.heap.size) := hs1; have HR1 := hide hr2; have HD5 := hide d5; have HG5 := hide d4; have HF1 := hide ((HF0.out.trans F1 (fun _ _ e => e)).alloc (.cells #[.int .i64 5, .int .i64 0, .bool false, .slice none 0 0, .string ⟨#[]⟩, .slice none 0 0, .slice none 0 0] 64)); clear F1 hr1 hr2 d4 d5 hs1))
        refine bodyPost_ret (by simp [results, Try.results33, go_sem, kr0, kr1, kr2, kr3, kr4, kr5, kr6]; rfl) rfl ?_
        have eq : (p : Int) - 1 = ((p - 1 : Nat) : Int) := by omega
        refine okL.mkyes HO.out rfl ?_ ⟨set7_fr HF4.out (Nat.le_refl _) _ _ _ _ _ _ _, ?_⟩
        · exact ⟨_, _, _, rfl, hrng, nilSl _, (fun i hi => by cases hi), nilRow _ _, nilRow _ _, .inl rfl, .inl rfl, .inl rfl⟩
        · rw [← eq]
          exact HR4.out.set7 HRB.out _ _ _ _ _ _ _

end Go.Proofs.Ytilcigjhogcjkaa
