/-
  What is proved here: the document's datum (package tandemref10): a datum of kind 1a. the document's datum (package tandemref10): a datum of kind 1b. the document's datum (package tandemref10): a datum of kind 1c. the document's datum (package tandemref10): a datum of kind 2. the document's datum (package tandemref10): a datum of kind 3.
-/
import Derived.Test.YtilcigjhogcjkaaPZ11
namespace Go.Proofs.Ytilcigjhogcjkaa
open Go Go.RowKit

set_option maxRecDepth 20000 in
set_option maxHeartbeats 4000000 in
theorem ldat_1a {h : Nat} (w0 w : World) (rb p dp : Nat) (dep : Int) (l m : List Nat) (hr : RfS w0 w rb l false (p : Int)) (h8 : By8 l) (_hl : l.length ≤ 100000000) (hp : p ≤ 20000) (hp1 : 1 ≤ p) (hd : dp + 1 ≤ 100) (hdep : dep = 100 - (dp : Int)) (hn : rdNum l = some (1, m)) (hm : rdFlag m = none) :
    Calls Try.prog 33 #[.pointer (some ⟨rb, 0, none⟩), .int .i64 dep] w fun e w' => okL w0 w rb w.heap.size (lrDat (h + 1) (dp + 1) l p) e w' := by
  obtain ⟨out, hout⟩ : ∃ o, o = lrDat (h + 1) (dp + 1) l p := ⟨_, rfl⟩
  rw [← hout]
  have hrb := hr.lt
  have hA0 := hr.mono (up_alloc w (.cells #[.int .i64 0, .int .i64 0, .bool false, .slice none 0 0, .string ⟨#[]⟩, .slice none 0 0, .slice none 0 0] 64))
  have x2 := hA0.k2
  have z2 := hA0.fz 2
  have hB1 := hA0.left ((p : Int) - 1)
  have x3 := hB1.k2
  have HD4 : Hid (DBx ((w.alloc (.cells #[.int .i64 0, .int .i64 0, .bool false, .slice none 0 0, .string ⟨#[]⟩, .slice none 0 0, .slice none 0 0] 64)).setCell ⟨rb, 2, none⟩ (.int .i64 ((p : Int) - 1))) w.heap.size (.int .i64 0) (.int .i64 0) (.bool false) (.slice none 0 0) (.string ⟨#[]⟩) (.slice none 0 0) (.slice none 0 0)) := (heap_setCell_other _ _ _ _ (show w.heap.size ≠ rb from by omega)).trans (heap_alloc_new w _)
  have HF0 : Hid (Fr (fun j => j = rb) w ((w.alloc (.cells #[.int .i64 0, .int .i64 0, .bool false, .slice none 0 0, .string ⟨#[]⟩, .slice none 0 0, .slice none 0 0] 64)).setCell ⟨rb, 2, none⟩ (.int .i64 ((p : Int) - 1)))) := ((Fr.refl (fun j => j = rb) w).alloc _).setCell (fun _ => rfl) _ _
  have HRB := hide hrb
  have g1 : ¬ ((p : Int) - 1 < 0) := by omega
  have g2 : ¬ (dep > 100) := by omega
  have K0 := hide ((lnum_any w0 _ rb l _ hB1 h8).mono (fun _ _ x => x.yes hn))
  have h8m := rdNum_by8 hn h8
  obtain ⟨iU, hiU, zU0, zU1, zU2⟩ := info_parts infoU
  have HO : out = match rdMag m with | none => none | some ((b, L), m1) => some (((1 : Int), (0 : Int), b, L, ⟨#[]⟩, [], []), m1, p - 1) := by
    rw [hout]
    simp only [lrDat, hn]
    rw [if_neg (by omega)]
    rfl
  rw [rdMag_lr] at HO
  rw [hm] at HO
  replace HO := hide HO
  have KB := hide (fun (W : World) (h' : RfS w0 W rb m false ((p : Int) - 1)) => lbit_no w0 W rb m _ h' hm)
  have KN := hide (fun (W : World) (l' : List Nat) (q' : Int) (h' : RfS w0 W rb l' true q') => lnum_bad w0 W rb l' q' h')
  clear hr hrb hA0 hB1 h8 hn hout hm h8m
  go_enter Try.func33, Try.ntmps33
  go_wp2_with (first
    | (have hx := HR2; clear hx; go_at_call 30; refine (KN.out _ _ _ HR2.out).mono ?_; rintro e3 w3 ⟨rfl, F3, l3, q3, hr3⟩; have HD3 := hide (HD2.out.frr F3 (by have := HS1.out; have := HRB.out; omega)); have HG3 := hide (HG2.out.frr F3 (by have := HS1.out; have := HRB.out; omega)); have HR3 := hide hr3; have HF3 := hide (HF2.out.trans F3 (fun _ _ e => e)); clear F3 hr3)
    | (have hx := HR1; clear hx; go_at_call 31; refine (KB.out _ HR1.out).mono ?_; rintro e2 w2 ⟨rfl, F2, l2, q2, hr2⟩; have e5 := HD5.out.frr F2 (by have := HS1.out; have := HRB.out; omega); have f51 := e5.fz 2; have y51 := e5.k2; have S5 := e5.s2 (.bool false); have e4 := (HG5.out.frr F2 (by have := HS1.out; have := HRB.out; omega)).oo (g := w1.heap.size) (i := 2) (x := .bool false) (by have := HS1.out; have := HRB.out; omega); have HR2 := hide (hr2.setO (g := w1.heap.size) (i := 2) (u := .bool false) (by have := HS1.out; have := HRB.out; omega)); have HF2 := hide ((HF1.out.trans F2 (fun _ _ e => e)).setCell (g := w1.heap.size) (fun e => by have := HS1.out; have := HRB.out; omega) 2 (.bool false)); have HD2 := hide S5; have HG2 := hide e4; clear F2 hr2 e5 e4 S5)
    | (go_at_call 30; refine K0.out.mono ?_; rintro e1 w1 ⟨rfl, F1, hr1⟩; have d4 := (HD4.out.frr F1 (by have := HRB.out; omega)).al (.cells #[.int .i64 1, .int .i64 0, .bool false, .slice none 0 0, .string ⟨#[]⟩, .slice none 0 0, .slice none 0 0] 64); have d5 : DBx (w1.alloc (.cells #[.int .i64 1, .int .i64 0, .bool false, .slice none 0 0, .string ⟨#[]⟩, .slice none 0 0, .slice none 0 0] 64)) w1.heap.size (.int .i64 1) (.int .i64 0) (.bool false) (.slice none 0 0) (.string ⟨#[]⟩) (.slice none 0 0) (.slice none 0 0) := heap_alloc_new w1 _; have hs1 : w.heap.size < w1.heap.size := (HD4.out.frr F1 (by have := HRB.out; omega)).lt; have hr2 := hr1.mono (up_alloc w1 (.cells #[.int .i64 1, .int .i64 0, .bool false, .slice none 0 0, .string ⟨#[]⟩, .slice none 0 0, .slice none 0 0] 64)); have b1 := hr2.k1; have zz1 := hr2.fz 1; have x10 := d5.k0; have HS1 : Hid (w.heap.size < w1.heap.size) := hs1; have HR1 := hide hr2; have HD5 := hide d5; have HG5 := hide d4; have HF1 := hide ((HF0.out.trans F1 (fun _ _ e => e)).alloc (.cells #[.int .i64 1, .int .i64 0, .bool false, .slice none 0 0, .string ⟨#[]⟩, .slice none 0 0, .slice none 0 0] 64)); clear F1 hr1 hr2 d4 d5 hs1))
  go_loopw [7, 8] (fun a7 _ wr => ∃ l' q', a7 = .int .i64 0 ∧ DBx wr w1.heap.size (.int .i64 1) (.int .i64 0) (.bool false) (.slice none 0 0) (.string ⟨#[]⟩) (.slice none 0 0) (.slice none 0 0) ∧ DBx wr w.heap.size (.int .i64 0) (.int .i64 0) (.bool false) (.slice none 0 0) (.string ⟨#[]⟩) (.slice none 0 0) (.slice none 0 0) ∧ RfS w0 wr rb l' true q' ∧ Fr (fun j => j = rb) w wr) (fun _ _ _ => 0)
  case atStart => exact ⟨_, _, rfl, HD3.out, HG3.out, HR3.out, HF3.out⟩
  case round =>
    obtain ⟨l', q', rfl, hD, hG, hR, hF⟩ := hrel
    have b9 := hR.k1
    obtain ⟨⟨x90, x91, x92, x93, x94, x95, x96⟩, ⟨f90, y90⟩, ⟨f91, y91⟩, ⟨f92, y92⟩, ⟨f93, y93⟩, ⟨f94, y94⟩, ⟨f95, y95⟩, ⟨f96, y96⟩, ⟨kr0, kr1, kr2, kr3, kr4, kr5, kr6⟩⟩ := DBx.copyF hD hG
    have HR := hide hR
    have HF := hide hF
    clear hD hG hR hF
    go_wp2_with fail
    refine bodyPost_ret (by simp [results, Try.results33, go_sem, kr0, kr1, kr2, kr3, kr4, kr5, kr6]; rfl) rfl ?_
    exact okL.mkno (by first | exact HO.out | rfl) (LB.set7 HF.out HR.out HRB.out (Nat.le_refl _) _ _ _ _ _ _ _) rfl

set_option maxRecDepth 20000 in
set_option maxHeartbeats 4000000 in
theorem ldat_1b {h : Nat} (w0 w : World) (rb p dp : Nat) (dep : Int) (l m : List Nat) (hr : RfS w0 w rb l false (p : Int)) (h8 : By8 l) (_hl : l.length ≤ 100000000) (hp : p ≤ 20000) (hp1 : 1 ≤ p) (hd : dp + 1 ≤ 100) (hdep : dep = 100 - (dp : Int)) (hn : rdNum l = some (1, m)) (b : Bool) (m1 : List Nat) (hm : rdFlag m = some (b, m1)) (hq : rdNum m1 = none) :
    Calls Try.prog 33 #[.pointer (some ⟨rb, 0, none⟩), .int .i64 dep] w fun e w' => okL w0 w rb w.heap.size (lrDat (h + 1) (dp + 1) l p) e w' := by
  obtain ⟨out, hout⟩ : ∃ o, o = lrDat (h + 1) (dp + 1) l p := ⟨_, rfl⟩
  rw [← hout]
  have hrb := hr.lt
  have hA0 := hr.mono (up_alloc w (.cells #[.int .i64 0, .int .i64 0, .bool false, .slice none 0 0, .string ⟨#[]⟩, .slice none 0 0, .slice none 0 0] 64))
  have x2 := hA0.k2
  have z2 := hA0.fz 2
  have hB1 := hA0.left ((p : Int) - 1)
  have x3 := hB1.k2
  have HD4 : Hid (DBx ((w.alloc (.cells #[.int .i64 0, .int .i64 0, .bool false, .slice none 0 0, .string ⟨#[]⟩, .slice none 0 0, .slice none 0 0] 64)).setCell ⟨rb, 2, none⟩ (.int .i64 ((p : Int) - 1))) w.heap.size (.int .i64 0) (.int .i64 0) (.bool false) (.slice none 0 0) (.string ⟨#[]⟩) (.slice none 0 0) (.slice none 0 0)) := (heap_setCell_other _ _ _ _ (show w.heap.size ≠ rb from by omega)).trans (heap_alloc_new w _)
  have HF0 : Hid (Fr (fun j => j = rb) w ((w.alloc (.cells #[.int .i64 0, .int .i64 0, .bool false, .slice none 0 0, .string ⟨#[]⟩, .slice none 0 0, .slice none 0 0] 64)).setCell ⟨rb, 2, none⟩ (.int .i64 ((p : Int) - 1)))) := ((Fr.refl (fun j => j = rb) w).alloc _).setCell (fun _ => rfl) _ _
  have HRB := hide hrb
  have g1 : ¬ ((p : Int) - 1 < 0) := by omega
  have g2 : ¬ (dep > 100) := by omega
  have K0 := hide ((lnum_any w0 _ rb l _ hB1 h8).mono (fun _ _ x => x.yes hn))
  have h8m := rdNum_by8 hn h8
  obtain ⟨iU, hiU, zU0, zU1, zU2⟩ := info_parts infoU
  have HO : out = match rdMag m with | none => none | some ((b, L), m1) => some (((1 : Int), (0 : Int), b, L, ⟨#[]⟩, [], []), m1, p - 1) := by
    rw [hout]
    simp only [lrDat, hn]
    rw [if_neg (by omega)]
    rfl
  rw [rdMag_lr] at HO
  rw [hm] at HO
  simp only at HO
  have h81 := h8m.suf (rdFlag_len hm).2
  have KB := hide (fun (W : World) (h' : RfS w0 W rb m false ((p : Int) - 1)) => lbit_yes w0 W rb m m1 b _ h' hm)
  rw [hq] at HO
  replace HO := hide HO
  have KN := hide (fun (W : World) (h' : RfS w0 W rb m1 false ((p : Int) - 1)) => (lnum_any w0 W rb m1 _ h' h81).mono (fun _ _ x => x.no hq))
  clear hr hrb hA0 hB1 h8 hn hout hm h8m h81 hq
  go_enter Try.func33, Try.ntmps33
  go_wp2_with (first
    | (have hx := HR2; clear hx; go_at_call 30; refine (KN.out _ HR2.out).mono ?_; rintro e3 w3 ⟨n3, hn3, rfl, F3, l3, q3, hr3⟩; have HD3 := hide (HD2.out.frr F3 (by have := HS1.out; have := HRB.out; omega)); have HG3 := hide (HG2.out.frr F3 (by have := HS1.out; have := HRB.out; omega)); have HR3 := hide hr3; have HF3 := hide (HF2.out.trans F3 (fun _ _ e => e)); clear F3 hr3)
    | (have hx := HR1; clear hx; go_at_call 31; refine (KB.out _ HR1.out).mono ?_; rintro e2 w2 ⟨rfl, F2, hr2⟩; have e5 := HD5.out.frr F2 (by have := HS1.out; have := HRB.out; omega); have f51 := e5.fz 2; have y51 := e5.k2; have S5 := e5.s2 (.bool b); have e4 := (HG5.out.frr F2 (by have := HS1.out; have := HRB.out; omega)).oo (g := w1.heap.size) (i := 2) (x := .bool b) (by have := HS1.out; have := HRB.out; omega); have HR2 := hide (hr2.setO (g := w1.heap.size) (i := 2) (u := .bool b) (by have := HS1.out; have := HRB.out; omega)); have HF2 := hide ((HF1.out.trans F2 (fun _ _ e => e)).setCell (g := w1.heap.size) (fun e => by have := HS1.out; have := HRB.out; omega) 2 (.bool b)); have HD2 := hide S5; have HG2 := hide e4; clear F2 hr2 e5 e4 S5)
    | (go_at_call 30; refine K0.out.mono ?_; rintro e1 w1 ⟨rfl, F1, hr1⟩; have d4 := (HD4.out.frr F1 (by have := HRB.out; omega)).al (.cells #[.int .i64 1, .int .i64 0, .bool false, .slice none 0 0, .string ⟨#[]⟩, .slice none 0 0, .slice none 0 0] 64); have d5 : DBx (w1.alloc (.cells #[.int .i64 1, .int .i64 0, .bool false, .slice none 0 0, .string ⟨#[]⟩, .slice none 0 0, .slice none 0 0] 64)) w1.heap.size (.int .i64 1) (.int .i64 0) (.bool false) (.slice none 0 0) (.string ⟨#[]⟩) (.slice none 0 0) (.slice none 0 0) := heap_alloc_new w1 _; have hs1 : w.heap.size < w1.heap.size := (HD4.out.frr F1 (by have := HRB.out; omega)).lt; have hr2 := hr1.mono (up_alloc w1 (.cells #[.int .i64 1, .int .i64 0, .bool false, .slice none 0 0, .string ⟨#[]⟩, .slice none 0 0, .slice none 0 0] 64)); have b1 := hr2.k1; have zz1 := hr2.fz 1; have x10 := d5.k0; have HS1 : Hid (w.heap.size < w1.heap.size) := hs1; have HR1 := hide hr2; have HD5 := hide d5; have HG5 := hide d4; have HF1 := hide ((HF0.out.trans F1 (fun _ _ e => e)).alloc (.cells #[.int .i64 1, .int .i64 0, .bool false, .slice none 0 0, .string ⟨#[]⟩, .slice none 0 0, .slice none 0 0] 64)); clear F1 hr1 hr2 d4 d5 hs1))
  go_loopw [7, 8] (fun a7 _ wr => ∃ l' q', a7 = .int .i64 0 ∧ DBx wr w1.heap.size (.int .i64 1) (.int .i64 0) (.bool b) (.slice none 0 0) (.string ⟨#[]⟩) (.slice none 0 0) (.slice none 0 0) ∧ DBx wr w.heap.size (.int .i64 0) (.int .i64 0) (.bool false) (.slice none 0 0) (.string ⟨#[]⟩) (.slice none 0 0) (.slice none 0 0) ∧ RfS w0 wr rb l' true q' ∧ Fr (fun j => j = rb) w wr) (fun _ _ _ => 0)
  case atStart => exact ⟨_, _, rfl, HD3.out, HG3.out, HR3.out, HF3.out⟩
  case round =>
    obtain ⟨l', q', rfl, hD, hG, hR, hF⟩ := hrel
    have b9 := hR.k1
    obtain ⟨⟨x90, x91, x92, x93, x94, x95, x96⟩, ⟨f90, y90⟩, ⟨f91, y91⟩, ⟨f92, y92⟩, ⟨f93, y93⟩, ⟨f94, y94⟩, ⟨f95, y95⟩, ⟨f96, y96⟩, ⟨kr0, kr1, kr2, kr3, kr4, kr5, kr6⟩⟩ := DBx.copyF hD hG
    have HR := hide hR
    have HF := hide hF
    clear hD hG hR hF
    by_cases hz : 0 < n3
    · have gz : (0 : Int) < (n3 : Int) := by omega
      go_wp2_with fail
      refine bodyPost_ret (by simp [results, Try.results33, go_sem, kr0, kr1, kr2, kr3, kr4, kr5, kr6]; rfl) rfl ?_
      exact okL.mkno (by first | exact HO.out | rfl) (LB.set7 HF.out HR.out HRB.out (Nat.le_refl _) _ _ _ _ _ _ _) rfl
    · have gz : ¬ ((0 : Int) < (n3 : Int)) := by omega
      go_wp2_with fail
      refine bodyPost_ret (by simp [results, Try.results33, go_sem, kr0, kr1, kr2, kr3, kr4, kr5, kr6]; rfl) rfl ?_
      exact okL.mkno (by first | exact HO.out | rfl) (LB.set7 HF.out HR.out HRB.out (Nat.le_refl _) _ _ _ _ _ _ _) rfl

set_option maxRecDepth 20000 in
set_option maxHeartbeats 4000000 in
theorem ldat_1c {h : Nat} (w0 w : World) (rb p dp : Nat) (dep : Int) (l m : List Nat) (hr : RfS w0 w rb l false (p : Int)) (h8 : By8 l) (_hl : l.length ≤ 100000000) (hp : p ≤ 20000) (hp1 : 1 ≤ p) (hd : dp + 1 ≤ 100) (hdep : dep = 100 - (dp : Int)) (hn : rdNum l = some (1, m)) (b : Bool) (m1 m2 : List Nat) (n : Nat) (hm : rdFlag m = some (b, m1)) (hq : rdNum m1 = some (n, m2)) :
    Calls Try.prog 33 #[.pointer (some ⟨rb, 0, none⟩), .int .i64 dep] w fun e w' => okL w0 w rb w.heap.size (lrDat (h + 1) (dp + 1) l p) e w' := by
  obtain ⟨out, hout⟩ : ∃ o, o = lrDat (h + 1) (dp + 1) l p := ⟨_, rfl⟩
  rw [← hout]
  have hrb := hr.lt
  have hA0 := hr.mono (up_alloc w (.cells #[.int .i64 0, .int .i64 0, .bool false, .slice none 0 0, .string ⟨#[]⟩, .slice none 0 0, .slice none 0 0] 64))
  have x2 := hA0.k2
  have z2 := hA0.fz 2
  have hB1 := hA0.left ((p : Int) - 1)
  have x3 := hB1.k2
  have HD4 : Hid (DBx ((w.alloc (.cells #[.int .i64 0, .int .i64 0, .bool false, .slice none 0 0, .string ⟨#[]⟩, .slice none 0 0, .slice none 0 0] 64)).setCell ⟨rb, 2, none⟩ (.int .i64 ((p : Int) - 1))) w.heap.size (.int .i64 0) (.int .i64 0) (.bool false) (.slice none 0 0) (.string ⟨#[]⟩) (.slice none 0 0) (.slice none 0 0)) := (heap_setCell_other _ _ _ _ (show w.heap.size ≠ rb from by omega)).trans (heap_alloc_new w _)
  have HF0 : Hid (Fr (fun j => j = rb) w ((w.alloc (.cells #[.int .i64 0, .int .i64 0, .bool false, .slice none 0 0, .string ⟨#[]⟩, .slice none 0 0, .slice none 0 0] 64)).setCell ⟨rb, 2, none⟩ (.int .i64 ((p : Int) - 1)))) := ((Fr.refl (fun j => j = rb) w).alloc _).setCell (fun _ => rfl) _ _
  have HRB := hide hrb
  have g1 : ¬ ((p : Int) - 1 < 0) := by omega
  have g2 : ¬ (dep > 100) := by omega
  have K0 := hide ((lnum_any w0 _ rb l _ hB1 h8).mono (fun _ _ x => x.yes hn))
  have h8m := rdNum_by8 hn h8
  obtain ⟨iU, hiU, zU0, zU1, zU2⟩ := info_parts infoU
  have HO : out = match rdMag m with | none => none | some ((b, L), m1) => some (((1 : Int), (0 : Int), b, L, ⟨#[]⟩, [], []), m1, p - 1) := by
    rw [hout]
    simp only [lrDat, hn]
    rw [if_neg (by omega)]
    rfl
  rw [rdMag_lr] at HO
  rw [hm] at HO
  simp only at HO
  have h81 := h8m.suf (rdFlag_len hm).2
  have KB := hide (fun (W : World) (h' : RfS w0 W rb m false ((p : Int) - 1)) => lbit_yes w0 W rb m m1 b _ h' hm)
  rw [hq] at HO
  simp only at HO
  have h82 := rdNum_by8 hq h81
  have hnl := rdNum_le hq
  have KN := hide (fun (W : World) (h' : RfS w0 W rb m1 false ((p : Int) - 1)) => (lnum_any w0 W rb m1 _ h' h81).mono (fun _ _ x => x.yes hq))
  obtain ⟨mo, hmo⟩ : ∃ mo, mo = rdRow rdLimb n m2 := ⟨_, rfl⟩
  rw [← hmo] at HO
  replace HO := hide HO
  have HMO := hide hmo
  have H82 := hide h82
  clear hr hrb hA0 hB1 h8 hn hout hm h8m h81 h82 hmo hq
  go_enter Try.func33, Try.ntmps33
  go_wp2_with (first
    | (have hx := HR2; clear hx; go_at_call 30; refine (KN.out _ HR2.out).mono ?_; rintro e3 w3 ⟨rfl, F3, hr3⟩; have HD3 := hide (HD2.out.frr F3 (by have := HS1.out; have := HRB.out; omega)); have HG3 := hide (HG2.out.frr F3 (by have := HS1.out; have := HRB.out; omega)); have HR3 := hide hr3; have HF3 := hide (HF2.out.trans F3 (fun _ _ e => e)); clear F3 hr3)
    | (have hx := HR1; clear hx; go_at_call 31; refine (KB.out _ HR1.out).mono ?_; rintro e2 w2 ⟨rfl, F2, hr2⟩; have e5 := HD5.out.frr F2 (by have := HS1.out; have := HRB.out; omega); have f51 := e5.fz 2; have y51 := e5.k2; have S5 := e5.s2 (.bool b); have e4 := (HG5.out.frr F2 (by have := HS1.out; have := HRB.out; omega)).oo (g := w1.heap.size) (i := 2) (x := .bool b) (by have := HS1.out; have := HRB.out; omega); have HR2 := hide (hr2.setO (g := w1.heap.size) (i := 2) (u := .bool b) (by have := HS1.out; have := HRB.out; omega)); have HF2 := hide ((HF1.out.trans F2 (fun _ _ e => e)).setCell (g := w1.heap.size) (fun e => by have := HS1.out; have := HRB.out; omega) 2 (.bool b)); have HD2 := hide S5; have HG2 := hide e4; clear F2 hr2 e5 e4 S5)
    | (go_at_call 30; refine K0.out.mono ?_; rintro e1 w1 ⟨rfl, F1, hr1⟩; have d4 := (HD4.out.frr F1 (by have := HRB.out; omega)).al (.cells #[.int .i64 1, .int .i64 0, .bool false, .slice none 0 0, .string ⟨#[]⟩, .slice none 0 0, .slice none 0 0] 64); have d5 : DBx (w1.alloc (.cells #[.int .i64 1, .int .i64 0, .bool false, .slice none 0 0, .string ⟨#[]⟩, .slice none 0 0, .slice none 0 0] 64)) w1.heap.size (.int .i64 1) (.int .i64 0) (.bool false) (.slice none 0 0) (.string ⟨#[]⟩) (.slice none 0 0) (.slice none 0 0) := heap_alloc_new w1 _; have hs1 : w.heap.size < w1.heap.size := (HD4.out.frr F1 (by have := HRB.out; omega)).lt; have hr2 := hr1.mono (up_alloc w1 (.cells #[.int .i64 1, .int .i64 0, .bool false, .slice none 0 0, .string ⟨#[]⟩, .slice none 0 0, .slice none 0 0] 64)); have b1 := hr2.k1; have zz1 := hr2.fz 1; have x10 := d5.k0; have HS1 : Hid (w.heap.size < w1.heap.size) := hs1; have HR1 := hide hr2; have HD5 := hide d5; have HG5 := hide d4; have HF1 := hide ((HF0.out.trans F1 (fun _ _ e => e)).alloc (.cells #[.int .i64 1, .int .i64 0, .bool false, .slice none 0 0, .string ⟨#[]⟩, .slice none 0 0, .slice none 0 0] 64)); clear F1 hr1 hr2 d4 d5 hs1))
  go_loopw [7, 8] (fun a7 _ wr => ∃ (i : Nat) (xs : List Nat) (ao : Option Addr) (cap : Nat), i ≤ n ∧ a7 = .int .i64 (i : Int) ∧ xs.length = i ∧ Fr (fun j => j = rb) w wr ∧ DBx wr w1.heap.size (.int .i64 1) (.int .i64 0) (.bool b) (.slice ao i cap) (.string ⟨#[]⟩) (.slice none 0 0) (.slice none 0 0) ∧ DBx wr w.heap.size (.int .i64 0) (.int .i64 0) (.bool false) (.slice none 0 0) (.string ⟨#[]⟩) (.slice none 0 0) (.slice none 0 0) ∧ wr.ownsRow (w1.heap.size + 1) 65 1 (.slice ao i cap) i (cU xs) ∧ ((∃ mm, By8 mm ∧ RfS w0 wr rb mm false ((p : Int) - 1) ∧ mo = more xs (rdRow rdLimb (n - i) mm)) ∨ (∃ mm q, RfS w0 wr rb mm true q ∧ mo = none))) (fun a7 _ _ => n - (intOf a7).toNat)
  case atStart => exact ⟨0, [], none, 0, Nat.zero_le _, rfl, rfl, HF3.out, HD3.out, HG3.out, World.ownsRow_nil _ _ _ _, .inl ⟨m2, H82.out, HR3.out, by rw [more_nil]; exact HMO.out⟩⟩
  case round =>
    obtain ⟨i, xs, ao, cap, hi, rfl, hxl, hF, hD, hG, hO, hcase⟩ := hrel
    have HXL := hide hxl
    clear HR1 HR2 HD5 HG5 HD2 HG2 HD3 HG3 HR3 HF1 HF2 HF3
    rcases hcase with ⟨mm, h8mm, hR, ho⟩ | ⟨mm, q, hR, ho⟩
    · have b9 := hR.k1
      by_cases hil : i < n
      · have hiI : (i : Int) < (n : Int) := by omega
        rw [show n - i = (n - (i + 1)) + 1 by omega] at ho
        cases hx : rdNum mm with
        | none =>
          have K4 := hide ((lnum_any w0 wr rb mm _ hR h8mm).mono (fun _ _ x => x.no hx))
          have hlb : rdLimb mm = none := by unfold rdLimb; rw [hx]
          have HO2 : Hid (mo = none) := ho.trans (more_no hlb)
          have HF := hide hF
          have HD := hide hD
          have HG := hide hG
          have HOW := hide hO
          clear hF hD hG hO hR ho h8mm hx hlb hxl
          go_wp2_with (first
            | (at_builtin; refine wpList_append_lies _ rfl _ _ 60 rfl (w1.heap.size + 1) 65 iU (.int .u32 0) 1 4 Try.underlying60 hiU zU0 zU1 zU2 rfl (by decide) _ i (cU xs) rfl ((own_set (own_fr HOW.out HFX.out (by have := HS1.out; have := HRB.out; omega)) (by have := HS1.out; have := HRB.out; omega)).alloc _) ⟨w4.heap.size, 0, none⟩ 1 1 [.int .u32 ((n4 : Int) % 4294967296)] rfl rfl (hcell1s w4 _ _ _ _ _) (by intro u hu; simp at hu; subst hu; rfl) (by decide) (by unfold maxLen; omega) (by omega) (by have := HD4.out.lt; simp; omega) (w4.heap.size + 1) (by simp) ?_; intro g9 cap9 w9 hown9 hgrow9 hat9 _; have HE9 := hide (app_post (W := (w4.setCell ⟨rb, 1, none⟩ (.bool true))) (HF4.out.setCell (g := rb) (fun _ => rfl) 1 (.bool true)) (HD4.out.oo (by have := HS1.out; have := HRB.out; omega)) (HG4.out.oo (by have := HS1.out; have := HRB.out; omega)) (HR4.out.bad true) (fun k hk => (HOW.out.lt k hk).1) hgrow9 (Nat.le_refl _) HS1.out HRB.out); have z93 := HE9.out.2.1.fz 3; have y93 := HE9.out.2.1.k3; have HOW9 := hide hown9; clear hown9 hgrow9 hat9)
            | (at_builtin; refine wpList_append_lies _ rfl _ _ 60 rfl (w1.heap.size + 1) 65 iU (.int .u32 0) 1 4 Try.underlying60 hiU zU0 zU1 zU2 rfl (by decide) _ i (cU xs) rfl ((own_fr HOW.out HFX.out (by have := HS1.out; have := HRB.out; omega)).alloc _) ⟨w4.heap.size, 0, none⟩ 1 1 [.int .u32 ((n4 : Int) % 4294967296)] rfl rfl (hcell1 w4 _ _) (by intro u hu; simp at hu; subst hu; rfl) (by decide) (by unfold maxLen; omega) (by omega) (by have := HD4.out.lt; simp; omega) (w4.heap.size + 1) (by simp) ?_; intro g9 cap9 w9 hown9 hgrow9 hat9 _; have HE9 := hide (app_post (W := w4) HF4.out HD4.out HG4.out HR4.out (fun k hk => (HOW.out.lt k hk).1) hgrow9 (Nat.le_refl _) HS1.out HRB.out); have z93 := HE9.out.2.1.fz 3; have y93 := HE9.out.2.1.k3; have HOW9 := hide hown9; clear hown9 hgrow9 hat9)
            | (go_at_call 30; refine K4.out.mono ?_; rintro e4 w4 ⟨n4, hn4, rfl, F4, l4, q4, hr4⟩; have D4 := HD.out.frr F4 (by have := HS1.out; have := HRB.out; omega); have z43 := D4.fz 3; have y43 := D4.k3; have b4 := hr4.k1; have z4 := hr4.fz 1; have HD4 := hide D4; have HG4 := hide (HG.out.frr F4 (by have := HS1.out; have := HRB.out; omega)); have HR4 := hide hr4; have HF4 := hide (HF.out.trans F4 (fun _ _ e => e)); have HFX := hide F4; have HN4 := hide hn4; have hg4 : decide ((n4 : Int) ≥ 4294967296) = true ∨ decide ((n4 : Int) ≥ 4294967296) = false := (by cases decide ((n4 : Int) ≥ 4294967296) <;> simp); clear F4 hr4 D4 hn4; rcases hg4 with g4 | g4))
          all_goals
            refine ⟨⟨i + 1, xs ++ [n4 % 4294967296], _, _, hil, by go_num, by simp [HXL.out], HE9.out.1.setCell (g := w1.heap.size) (fun e => by have := HS1.out; have := HRB.out; omega) 3 _, HE9.out.2.1.s3 _, HE9.out.2.2.1.oo (by have := HS1.out; have := HRB.out; omega), own_set (by rw [cU_snoc]; exact HOW9.out) (by omega), .inr ⟨_, _, HE9.out.2.2.2.setO (by have := HS1.out; have := HRB.out; omega), HO2.out⟩⟩, by simp [intOf]; omega⟩
        | some y =>
          obtain ⟨x, m3⟩ := y
          have h83 := rdNum_by8 hx h8mm
          have hxl2 := rdNum_le hx
          have K4 := hide ((lnum_any w0 wr rb mm _ hR h8mm).mono (fun _ _ x => x.yes hx))
          have HF := hide hF
          have HD := hide hD
          have HG := hide hG
          have HOW := hide hO
          by_cases hbig : x ≤ 4294967295
          · have hlb : rdLimb mm = some (x, m3) := by unfold rdLimb; rw [hx]; simp only [if_pos hbig]
            have HO2 : Hid (mo = more (xs ++ [x]) (rdRow rdLimb (n - (i + 1)) m3)) := ho.trans (more_yes hlb)
            have g4 : decide ((x : Int) ≥ 4294967296) = false := decide_eq_false (by omega)
            have HXM : Hid ((x : Int) % 4294967296 = (x : Int)) := by unfold Hid; omega
            have H83 := hide h83
            clear hF hD hG hO hR ho h8mm hx hlb hxl hbig hxl2 h83
            go_wp2_with (first
              | (at_builtin; refine wpList_append_lies _ rfl _ _ 60 rfl (w1.heap.size + 1) 65 iU (.int .u32 0) 1 4 Try.underlying60 hiU zU0 zU1 zU2 rfl (by decide) _ i (cU xs) rfl ((own_fr HOW.out HFX.out (by have := HS1.out; have := HRB.out; omega)).alloc _) ⟨w4.heap.size, 0, none⟩ 1 1 [.int .u32 ((x : Int) % 4294967296)] rfl rfl (hcell1 w4 _ _) (by intro u hu; simp at hu; subst hu; rfl) (by decide) (by unfold maxLen; omega) (by omega) (by have := HD4.out.lt; simp; omega) (w4.heap.size + 1) (by simp) ?_; intro g9 cap9 w9 hown9 hgrow9 hat9 _; have HE9 := hide (app_post (W := w4) HF4.out HD4.out HG4.out HR4.out (fun k hk => (HOW.out.lt k hk).1) hgrow9 (Nat.le_refl _) HS1.out HRB.out); have z93 := HE9.out.2.1.fz 3; have y93 := HE9.out.2.1.k3; have HOW9 := hide hown9; clear hown9 hgrow9 hat9)
              | (go_at_call 30; refine K4.out.mono ?_; rintro e4 w4 ⟨rfl, F4, hr4⟩; have D4 := HD.out.frr F4 (by have := HS1.out; have := HRB.out; omega); have z43 := D4.fz 3; have y43 := D4.k3; have b4 := hr4.k1; have z4 := hr4.fz 1; have HD4 := hide D4; have HG4 := hide (HG.out.frr F4 (by have := HS1.out; have := HRB.out; omega)); have HR4 := hide hr4; have HF4 := hide (HF.out.trans F4 (fun _ _ e => e)); have HFX := hide F4; clear F4 hr4 D4))
            refine ⟨⟨i + 1, xs ++ [x], _, _, hil, by go_num, by simp [HXL.out], HE9.out.1.setCell (g := w1.heap.size) (fun e => by have := HS1.out; have := HRB.out; omega) 3 _, HE9.out.2.1.s3 _, HE9.out.2.2.1.oo (by have := HS1.out; have := HRB.out; omega), own_set (by rw [cU_snoc, ← HXM.out]; exact HOW9.out) (by omega), .inl ⟨_, H83.out, HE9.out.2.2.2.setO (by have := HS1.out; have := HRB.out; omega), HO2.out⟩⟩, by simp [intOf]; omega⟩
          · have hlb : rdLimb mm = none := by unfold rdLimb; rw [hx]; simp only [if_neg hbig]
            have HO2 : Hid (mo = none) := ho.trans (more_no hlb)
            have g4 : decide ((x : Int) ≥ 4294967296) = true := decide_eq_true (by omega)
            clear hF hD hG hO hR ho h8mm hx hlb hxl hbig hxl2 h83
            go_wp2_with (first
              | (at_builtin; refine wpList_append_lies _ rfl _ _ 60 rfl (w1.heap.size + 1) 65 iU (.int .u32 0) 1 4 Try.underlying60 hiU zU0 zU1 zU2 rfl (by decide) _ i (cU xs) rfl ((own_set (own_fr HOW.out HFX.out (by have := HS1.out; have := HRB.out; omega)) (by have := HS1.out; have := HRB.out; omega)).alloc _) ⟨w4.heap.size, 0, none⟩ 1 1 [.int .u32 ((x : Int) % 4294967296)] rfl rfl (hcell1s w4 _ _ _ _ _) (by intro u hu; simp at hu; subst hu; rfl) (by decide) (by unfold maxLen; omega) (by omega) (by have := HD4.out.lt; simp; omega) (w4.heap.size + 1) (by simp) ?_; intro g9 cap9 w9 hown9 hgrow9 hat9 _; have HE9 := hide (app_post (W := (w4.setCell ⟨rb, 1, none⟩ (.bool true))) (HF4.out.setCell (g := rb) (fun _ => rfl) 1 (.bool true)) (HD4.out.oo (by have := HS1.out; have := HRB.out; omega)) (HG4.out.oo (by have := HS1.out; have := HRB.out; omega)) (HR4.out.bad true) (fun k hk => (HOW.out.lt k hk).1) hgrow9 (Nat.le_refl _) HS1.out HRB.out); have z93 := HE9.out.2.1.fz 3; have y93 := HE9.out.2.1.k3; have HOW9 := hide hown9; clear hown9 hgrow9 hat9)
              | (go_at_call 30; refine K4.out.mono ?_; rintro e4 w4 ⟨rfl, F4, hr4⟩; have D4 := HD.out.frr F4 (by have := HS1.out; have := HRB.out; omega); have z43 := D4.fz 3; have y43 := D4.k3; have b4 := hr4.k1; have z4 := hr4.fz 1; have HD4 := hide D4; have HG4 := hide (HG.out.frr F4 (by have := HS1.out; have := HRB.out; omega)); have HR4 := hide hr4; have HF4 := hide (HF.out.trans F4 (fun _ _ e => e)); have HFX := hide F4; clear F4 hr4 D4))
            refine ⟨⟨i + 1, xs ++ [x % 4294967296], _, _, hil, by go_num, by simp [HXL.out], HE9.out.1.setCell (g := w1.heap.size) (fun e => by have := HS1.out; have := HRB.out; omega) 3 _, HE9.out.2.1.s3 _, HE9.out.2.2.1.oo (by have := HS1.out; have := HRB.out; omega), own_set (by rw [cU_snoc]; exact HOW9.out) (by omega), .inr ⟨_, _, HE9.out.2.2.2.setO (by have := HS1.out; have := HRB.out; omega), HO2.out⟩⟩, by simp [intOf]; omega⟩
      · have hiI : ¬ ((i : Int) < (n : Int)) := by omega
        have e : i = n := by omega
        have HE := hide e
        rw [show n - i = 0 by omega, rdRow_zero] at ho
        have HO2 : mo = some (xs, mm) := by rw [ho]; simp [more]
        have HLIM := hide (rdRow_limb n m2 xs mm (HMO.out.symm.trans HO2)).2
        have HOX : Hid (out = some (((1 : Int), (0 : Int), b, xs, ⟨#[]⟩, [], []), mm, p - 1)) := by unfold Hid; rw [HO.out, HO2]; rfl
        obtain ⟨⟨x90, x91, x92, x93, x94, x95, x96⟩, ⟨f90, y90⟩, ⟨f91, y91⟩, ⟨f92, y92⟩, ⟨f93, y93⟩, ⟨f94, y94⟩, ⟨f95, y95⟩, ⟨f96, y96⟩, ⟨kr0, kr1, kr2, kr3, kr4, kr5, kr6⟩⟩ := DBx.copyF hD hG
        have HR := hide hR
        have HF := hide hF
        have HOW := hide hO
        clear hD hG hR hF hO ho HO2 e hxl h8mm
        go_wp2_with fail
        refine bodyPost_ret (by simp [results, Try.results33, go_sem, kr0, kr1, kr2, kr3, kr4, kr5, kr6]; rfl) rfl ?_
        have eq : (p : Int) - 1 = ((p - 1 : Nat) : Int) := by omega
        have e := HE.out
        have hsl := own_sl (by rw [HXL.out]; exact HOW.out)
        rw [HXL.out] at hsl
        have hs1 := HS1.out
        have hqb : VQ (fun b => w1.heap.size + 1 ≤ b) (.slice ao i cap) xs.length := by rw [HXL.out]; exact hsl.2
        refine okL.mkyes HOX.out rfl ?_ ⟨set7_fr HF.out (Nat.le_refl _) _ _ _ _ _ _ _, ?_⟩
        · refine ⟨_, _, _, rfl, by decide, ?_, ?_, nilRow _ _, nilRow _ _, hqb.mono (fun k hk => by omega), .inl rfl, .inl rfl⟩
          · rw [HXL.out]
            exact hsl.1.blk hsl.2 (fun k _ hk => set7_other (by omega) _ _ _ _ _ _ _)
          · intro j hj
            have := HLIM.out (xs.getD j 0) (by rw [List.getD_eq_getElem?_getD, List.getElem?_eq_getElem hj]; exact List.getElem_mem hj)
            exact this
        · rw [← eq]
          exact HR.out.set7 HRB.out _ _ _ _ _ _ _
    · have b9 := hR.k1
      have HOX : Hid (out = none) := by unfold Hid; rw [HO.out, ho]
      obtain ⟨⟨x90, x91, x92, x93, x94, x95, x96⟩, ⟨f90, y90⟩, ⟨f91, y91⟩, ⟨f92, y92⟩, ⟨f93, y93⟩, ⟨f94, y94⟩, ⟨f95, y95⟩, ⟨f96, y96⟩, ⟨kr0, kr1, kr2, kr3, kr4, kr5, kr6⟩⟩ := DBx.copyF hD hG
      have HR := hide hR
      have HF := hide hF
      clear hD hG hR hF hO ho hxl
      by_cases hz : (i : Int) < (n : Int)
      · go_wp2_with fail
        refine bodyPost_ret (by simp [results, Try.results33, go_sem, kr0, kr1, kr2, kr3, kr4, kr5, kr6]; rfl) rfl ?_
        exact okL.mkno HOX.out (LB.set7 HF.out HR.out HRB.out (Nat.le_refl _) _ _ _ _ _ _ _) rfl
      · go_wp2_with fail
        refine bodyPost_ret (by simp [results, Try.results33, go_sem, kr0, kr1, kr2, kr3, kr4, kr5, kr6]; rfl) rfl ?_
        exact okL.mkno HOX.out (LB.set7 HF.out HR.out HRB.out (Nat.le_refl _) _ _ _ _ _ _ _) rfl

set_option maxRecDepth 20000 in
set_option maxHeartbeats 4000000 in
theorem ldat_2 {h : Nat} (w0 w : World) (rb p dp : Nat) (dep : Int) (l m : List Nat) (hr : RfS w0 w rb l false (p : Int)) (h8 : By8 l) (_hl : l.length ≤ 100000000) (hp : p ≤ 20000) (hp1 : 1 ≤ p) (hd : dp + 1 ≤ 100) (hdep : dep = 100 - (dp : Int)) (hn : rdNum l = some (2, m)) :
    Calls Try.prog 33 #[.pointer (some ⟨rb, 0, none⟩), .int .i64 dep] w fun e w' => okL w0 w rb w.heap.size (lrDat (h + 1) (dp + 1) l p) e w' := by
  obtain ⟨out, hout⟩ : ∃ o, o = lrDat (h + 1) (dp + 1) l p := ⟨_, rfl⟩
  rw [← hout]
  have hrb := hr.lt
  have hA0 := hr.mono (up_alloc w (.cells #[.int .i64 0, .int .i64 0, .bool false, .slice none 0 0, .string ⟨#[]⟩, .slice none 0 0, .slice none 0 0] 64))
  have x2 := hA0.k2
  have z2 := hA0.fz 2
  have hB1 := hA0.left ((p : Int) - 1)
  have x3 := hB1.k2
  have HD4 : Hid (DBx ((w.alloc (.cells #[.int .i64 0, .int .i64 0, .bool false, .slice none 0 0, .string ⟨#[]⟩, .slice none 0 0, .slice none 0 0] 64)).setCell ⟨rb, 2, none⟩ (.int .i64 ((p : Int) - 1))) w.heap.size (.int .i64 0) (.int .i64 0) (.bool false) (.slice none 0 0) (.string ⟨#[]⟩) (.slice none 0 0) (.slice none 0 0)) := (heap_setCell_other _ _ _ _ (show w.heap.size ≠ rb from by omega)).trans (heap_alloc_new w _)
  have HF0 : Hid (Fr (fun j => j = rb) w ((w.alloc (.cells #[.int .i64 0, .int .i64 0, .bool false, .slice none 0 0, .string ⟨#[]⟩, .slice none 0 0, .slice none 0 0] 64)).setCell ⟨rb, 2, none⟩ (.int .i64 ((p : Int) - 1)))) := ((Fr.refl (fun j => j = rb) w).alloc _).setCell (fun _ => rfl) _ _
  have HRB := hide hrb
  have g1 : ¬ ((p : Int) - 1 < 0) := by omega
  have g2 : ¬ (dep > 100) := by omega
  have K0 := hide ((lnum_any w0 _ rb l _ hB1 h8).mono (fun _ _ x => x.yes hn))
  have h8m := rdNum_by8 hn h8
  have HLE := hide (rdNum_len hn)
  have HO : out = match rdSgn m with | none => none | some (n, m') => some (((2 : Int), n, false, [], ⟨#[]⟩, [], []), m', p - 1) := by
    rw [hout]
    simp only [lrDat, hn]
    rw [if_neg (by omega)]
    rfl
  cases hs : rdSgn m with
  | none =>
    have hnm : rdNum m = none := by
      unfold rdSgn at hs
      split at hs
      · assumption
      · cases hs
    have K1 := hide (fun (W : World) (h' : RfS w0 W rb m false ((p : Int) - 1)) => lsgn_no w0 W rb m _ h' h8m hnm)
    rw [hs] at HO
    replace HO := hide HO
    clear hr hrb hA0 hB1 h8 hn hout hs h8m hnm
    go_enter Try.func33, Try.ntmps33
    go_wp2_with (first
      | (have hx := HR1; clear hx; go_at_call 32; refine (K1.out _ HR1.out).mono ?_; rintro e2 w2 ⟨s2, rfl, F2, l2, q2, hr2⟩; have e5 := HD5.out.frr F2 (by have := HS1.out; have := HRB.out; omega); have f51 := e5.fz 1; have y51 := e5.k1; have S5 := e5.s1 (.int .i64 s2); have e4 := (HG5.out.frr F2 (by have := HRB.out; omega)).oo (g := w1.heap.size) (i := 1) (x := .int .i64 s2) (by have := HS1.out; omega); obtain ⟨⟨x90, x91, x92, x93, x94, x95, x96⟩, ⟨f90, y90⟩, ⟨f91, y91⟩, ⟨f92, y92⟩, ⟨f93, y93⟩, ⟨f94, y94⟩, ⟨f95, y95⟩, ⟨f96, y96⟩, ⟨kr0, kr1, kr2, kr3, kr4, kr5, kr6⟩⟩ := DBx.copyF S5 e4; have HR2 := hide (hr2.setO (g := w1.heap.size) (i := 1) (u := .int .i64 s2) (by have := HS1.out; have := HRB.out; omega)); have HF2 := hide ((HF1.out.trans F2 (fun _ _ e => e)).setCell (g := w1.heap.size) (fun e => by have := HS1.out; have := HRB.out; omega) 1 (.int .i64 s2)); clear F2 hr2 e5 e4 S5)
      | (go_at_call 30; refine K0.out.mono ?_; rintro e1 w1 ⟨rfl, F1, hr1⟩; have d4 := (HD4.out.frr F1 (by have := HRB.out; omega)).al (.cells #[.int .i64 2, .int .i64 0, .bool false, .slice none 0 0, .string ⟨#[]⟩, .slice none 0 0, .slice none 0 0] 64); have d5 : DBx (w1.alloc (.cells #[.int .i64 2, .int .i64 0, .bool false, .slice none 0 0, .string ⟨#[]⟩, .slice none 0 0, .slice none 0 0] 64)) w1.heap.size (.int .i64 2) (.int .i64 0) (.bool false) (.slice none 0 0) (.string ⟨#[]⟩) (.slice none 0 0) (.slice none 0 0) := heap_alloc_new w1 _; have hs1 : w.heap.size < w1.heap.size := (HD4.out.frr F1 (by have := HRB.out; omega)).lt; have hr2 := hr1.mono (up_alloc w1 (.cells #[.int .i64 2, .int .i64 0, .bool false, .slice none 0 0, .string ⟨#[]⟩, .slice none 0 0, .slice none 0 0] 64)); have b1 := hr2.k1; have zz1 := hr2.fz 1; have x10 := d5.k0; have HS1 : Hid (w.heap.size < w1.heap.size) := hs1; have HR1 := hide hr2; have HD5 := hide d5; have HG5 := hide d4; have HF1 := hide ((HF0.out.trans F1 (fun _ _ e => e)).alloc (.cells #[.int .i64 2, .int .i64 0, .bool false, .slice none 0 0, .string ⟨#[]⟩, .slice none 0 0, .slice none 0 0] 64)); clear F1 hr1 hr2 d4 d5 hs1))
    refine bodyPost_ret (by simp [results, Try.results33, go_sem, kr0, kr1, kr2, kr3, kr4, kr5, kr6]; rfl) rfl ?_
    exact okL.mkno HO.out (LB.set7 HF2.out HR2.out HRB.out (Nat.le_refl _) _ _ _ _ _ _ _) rfl
  | some y =>
    obtain ⟨s, m2⟩ := y
    have K1 := hide (fun (W : World) (h' : RfS w0 W rb m false ((p : Int) - 1)) => lsgn_yes w0 W rb m m2 s _ h' h8m hs)
    have hrng := sgn_rng hs
    rw [hs] at HO
    replace HO := hide HO
    clear hr hrb hA0 hB1 h8 hn hout hs h8m
    go_enter Try.func33, Try.ntmps33
    go_wp2_with (first
      | (have hx := HR1; clear hx; go_at_call 32; refine (K1.out _ HR1.out).mono ?_; rintro e2 w2 ⟨rfl, F2, hr2⟩; have e5 := HD5.out.frr F2 (by have := HS1.out; have := HRB.out; omega); have f51 := e5.fz 1; have y51 := e5.k1; have S5 := e5.s1 (.int .i64 s); have e4 := (HG5.out.frr F2 (by have := HRB.out; omega)).oo (g := w1.heap.size) (i := 1) (x := .int .i64 s) (by have := HS1.out; omega); obtain ⟨⟨x90, x91, x92, x93, x94, x95, x96⟩, ⟨f90, y90⟩, ⟨f91, y91⟩, ⟨f92, y92⟩, ⟨f93, y93⟩, ⟨f94, y94⟩, ⟨f95, y95⟩, ⟨f96, y96⟩, ⟨kr0, kr1, kr2, kr3, kr4, kr5, kr6⟩⟩ := DBx.copyF S5 e4; have HR2 := hide (hr2.setO (g := w1.heap.size) (i := 1) (u := .int .i64 s) (by have := HS1.out; have := HRB.out; omega)); have HF2 := hide ((HF1.out.trans F2 (fun _ _ e => e)).setCell (g := w1.heap.size) (fun e => by have := HS1.out; have := HRB.out; omega) 1 (.int .i64 s)); clear F2 hr2 e5 e4 S5)
      | (go_at_call 30; refine K0.out.mono ?_; rintro e1 w1 ⟨rfl, F1, hr1⟩; have d4 := (HD4.out.frr F1 (by have := HRB.out; omega)).al (.cells #[.int .i64 2, .int .i64 0, .bool false, .slice none 0 0, .string ⟨#[]⟩, .slice none 0 0, .slice none 0 0] 64); have d5 : DBx (w1.alloc (.cells #[.int .i64 2, .int .i64 0, .bool false, .slice none 0 0, .string ⟨#[]⟩, .slice none 0 0, .slice none 0 0] 64)) w1.heap.size (.int .i64 2) (.int .i64 0) (.bool false) (.slice none 0 0) (.string ⟨#[]⟩) (.slice none 0 0) (.slice none 0 0) := heap_alloc_new w1 _; have hs1 : w.heap.size < w1.heap.size := (HD4.out.frr F1 (by have := HRB.out; omega)).lt; have hr2 := hr1.mono (up_alloc w1 (.cells #[.int .i64 2, .int .i64 0, .bool false, .slice none 0 0, .string ⟨#[]⟩, .slice none 0 0, .slice none 0 0] 64)); have b1 := hr2.k1; have zz1 := hr2.fz 1; have x10 := d5.k0; have HS1 : Hid (w.heap.size < w1.heap.size) := hs1; have HR1 := hide hr2; have HD5 := hide d5; have HG5 := hide d4; have HF1 := hide ((HF0.out.trans F1 (fun _ _ e => e)).alloc (.cells #[.int .i64 2, .int .i64 0, .bool false, .slice none 0 0, .string ⟨#[]⟩, .slice none 0 0, .slice none 0 0] 64)); clear F1 hr1 hr2 d4 d5 hs1))
    refine bodyPost_ret (by simp [results, Try.results33, go_sem, kr0, kr1, kr2, kr3, kr4, kr5, kr6]; rfl) rfl ?_
    have eq : (p : Int) - 1 = ((p - 1 : Nat) : Int) := by omega
    refine okL.mkyes HO.out rfl ?_ ⟨set7_fr HF2.out (Nat.le_refl _) _ _ _ _ _ _ _, ?_⟩
    · exact ⟨_, _, _, rfl, hrng, nilSl _, (fun i hi => by cases hi), nilRow _ _, nilRow _ _, .inl rfl, .inl rfl, .inl rfl⟩
    · rw [← eq]
      exact HR2.out.set7 HRB.out _ _ _ _ _ _ _

set_option maxRecDepth 20000 in
set_option maxHeartbeats 4000000 in
theorem ldat_3 {h : Nat} (w0 w : World) (rb p dp : Nat) (dep : Int) (l m : List Nat) (hr : RfS w0 w rb l false (p : Int)) (h8 : By8 l) (_hl : l.length ≤ 100000000) (hp : p ≤ 20000) (hp1 : 1 ≤ p) (hd : dp + 1 ≤ 100) (hdep : dep = 100 - (dp : Int)) (hn : rdNum l = some (3, m)) :
    Calls Try.prog 33 #[.pointer (some ⟨rb, 0, none⟩), .int .i64 dep] w fun e w' => okL w0 w rb w.heap.size (lrDat (h + 1) (dp + 1) l p) e w' := by
  obtain ⟨out, hout⟩ : ∃ o, o = lrDat (h + 1) (dp + 1) l p := ⟨_, rfl⟩
  rw [← hout]
  have hrb := hr.lt
  have hA0 := hr.mono (up_alloc w (.cells #[.int .i64 0, .int .i64 0, .bool false, .slice none 0 0, .string ⟨#[]⟩, .slice none 0 0, .slice none 0 0] 64))
  have x2 := hA0.k2
  have z2 := hA0.fz 2
  have hB1 := hA0.left ((p : Int) - 1)
  have x3 := hB1.k2
  have HD4 : Hid (DBx ((w.alloc (.cells #[.int .i64 0, .int .i64 0, .bool false, .slice none 0 0, .string ⟨#[]⟩, .slice none 0 0, .slice none 0 0] 64)).setCell ⟨rb, 2, none⟩ (.int .i64 ((p : Int) - 1))) w.heap.size (.int .i64 0) (.int .i64 0) (.bool false) (.slice none 0 0) (.string ⟨#[]⟩) (.slice none 0 0) (.slice none 0 0)) := (heap_setCell_other _ _ _ _ (show w.heap.size ≠ rb from by omega)).trans (heap_alloc_new w _)
  have HF0 : Hid (Fr (fun j => j = rb) w ((w.alloc (.cells #[.int .i64 0, .int .i64 0, .bool false, .slice none 0 0, .string ⟨#[]⟩, .slice none 0 0, .slice none 0 0] 64)).setCell ⟨rb, 2, none⟩ (.int .i64 ((p : Int) - 1)))) := ((Fr.refl (fun j => j = rb) w).alloc _).setCell (fun _ => rfl) _ _
  have HRB := hide hrb
  have g1 : ¬ ((p : Int) - 1 < 0) := by omega
  have g2 : ¬ (dep > 100) := by omega
  have K0 := hide ((lnum_any w0 _ rb l _ hB1 h8).mono (fun _ _ x => x.yes hn))
  have h8m := rdNum_by8 hn h8
  have HLE := hide (rdNum_len hn)
  have HO : out = match rdSgn m with | none => none | some (n, m') => some (((3 : Int), n, false, [], ⟨#[]⟩, [], []), m', p - 1) := by
    rw [hout]
    simp only [lrDat, hn]
    rw [if_neg (by omega)]
    rfl
  cases hs : rdSgn m with
  | none =>
    have hnm : rdNum m = none := by
      unfold rdSgn at hs
      split at hs
      · assumption
      · cases hs
    have K1 := hide (fun (W : World) (h' : RfS w0 W rb m false ((p : Int) - 1)) => lsgn_no w0 W rb m _ h' h8m hnm)
    rw [hs] at HO
    replace HO := hide HO
    clear hr hrb hA0 hB1 h8 hn hout hs h8m hnm
    go_enter Try.func33, Try.ntmps33
    go_wp2_with (first
      | (have hx := HR1; clear hx; go_at_call 32; refine (K1.out _ HR1.out).mono ?_; rintro e2 w2 ⟨s2, rfl, F2, l2, q2, hr2⟩; have e5 := HD5.out.frr F2 (by have := HS1.out; have := HRB.out; omega); have f51 := e5.fz 1; have y51 := e5.k1; have S5 := e5.s1 (.int .i64 s2); have e4 := (HG5.out.frr F2 (by have := HRB.out; omega)).oo (g := w1.heap.size) (i := 1) (x := .int .i64 s2) (by have := HS1.out; omega); obtain ⟨⟨x90, x91, x92, x93, x94, x95, x96⟩, ⟨f90, y90⟩, ⟨f91, y91⟩, ⟨f92, y92⟩, ⟨f93, y93⟩, ⟨f94, y94⟩, ⟨f95, y95⟩, ⟨f96, y96⟩, ⟨kr0, kr1, kr2, kr3, kr4, kr5, kr6⟩⟩ := DBx.copyF S5 e4; have HR2 := hide (hr2.setO (g := w1.heap.size) (i := 1) (u := .int .i64 s2) (by have := HS1.out; have := HRB.out; omega)); have HF2 := hide ((HF1.out.trans F2 (fun _ _ e => e)).setCell (g := w1.heap.size) (fun e => by have := HS1.out; have := HRB.out; omega) 1 (.int .i64 s2)); clear F2 hr2 e5 e4 S5)
      | (go_at_call 30; refine K0.out.mono ?_; rintro e1 w1 ⟨rfl, F1, hr1⟩; have d4 := (HD4.out.frr F1 (by have := HRB.out; omega)).al (.cells #[.int .i64 3, .int .i64 0, .bool false, .slice none 0 0, .string ⟨#[]⟩, .slice none 0 0, .slice none 0 0] 64); have d5 : DBx (w1.alloc (.cells #[.int .i64 3, .int .i64 0, .bool false, .slice none 0 0, .string ⟨#[]⟩, .slice none 0 0, .slice none 0 0] 64)) w1.heap.size (.int .i64 3) (.int .i64 0) (.bool false) (.slice none 0 0) (.string ⟨#[]⟩) (.slice none 0 0) (.slice none 0 0) := heap_alloc_new w1 _; have hs1 : w.heap.size < w1.heap.size := (HD4.out.frr F1 (by have := HRB.out; omega)).lt; have hr2 := hr1.mono (up_alloc w1 (.cells #[.int .i64 3, .int .i64 0, .bool false, .slice none 0 0, .string ⟨#[]⟩, .slice none 0 0, .slice none 0 0] 64)); have b1 := hr2.k1; have zz1 := hr2.fz 1; have x10 := d5.k0; have HS1 : Hid (w.heap.size < w1.heap.size) := hs1; have HR1 := hide hr2; have HD5 := hide d5; have HG5 := hide d4; have HF1 := hide ((HF0.out.trans F1 (fun _ _ e => e)).alloc (.cells #[.int .i64 3, .int .i64 0, .bool false, .slice none 0 0, .string ⟨#[]⟩, .slice none 0 0, .slice none 0 0] 64)); clear F1 hr1 hr2 d4 d5 hs1))
    refine bodyPost_ret (by simp [results, Try.results33, go_sem, kr0, kr1, kr2, kr3, kr4, kr5, kr6]; rfl) rfl ?_
    exact okL.mkno HO.out (LB.set7 HF2.out HR2.out HRB.out (Nat.le_refl _) _ _ _ _ _ _ _) rfl
  | some y =>
    obtain ⟨s, m2⟩ := y
    have K1 := hide (fun (W : World) (h' : RfS w0 W rb m false ((p : Int) - 1)) => lsgn_yes w0 W rb m m2 s _ h' h8m hs)
    have hrng := sgn_rng hs
    rw [hs] at HO
    replace HO := hide HO
    clear hr hrb hA0 hB1 h8 hn hout hs h8m
    go_enter Try.func33, Try.ntmps33
    go_wp2_with (first
      | (have hx := HR1; clear hx; go_at_call 32; refine (K1.out _ HR1.out).mono ?_; rintro e2 w2 ⟨rfl, F2, hr2⟩; have e5 := HD5.out.frr F2 (by have := HS1.out; have := HRB.out; omega); have f51 := e5.fz 1; have y51 := e5.k1; have S5 := e5.s1 (.int .i64 s); have e4 := (HG5.out.frr F2 (by have := HRB.out; omega)).oo (g := w1.heap.size) (i := 1) (x := .int .i64 s) (by have := HS1.out; omega); obtain ⟨⟨x90, x91, x92, x93, x94, x95, x96⟩, ⟨f90, y90⟩, ⟨f91, y91⟩, ⟨f92, y92⟩, ⟨f93, y93⟩, ⟨f94, y94⟩, ⟨f95, y95⟩, ⟨f96, y96⟩, ⟨kr0, kr1, kr2, kr3, kr4, kr5, kr6⟩⟩ := DBx.copyF S5 e4; have HR2 := hide (hr2.setO (g := w1.heap.size) (i := 1) (u := .int .i64 s) (by have := HS1.out; have := HRB.out; omega)); have HF2 := hide ((HF1.out.trans F2 (fun _ _ e => e)).setCell (g := w1.heap.size) (fun e => by have := HS1.out; have := HRB.out; omega) 1 (.int .i64 s)); clear F2 hr2 e5 e4 S5)
      | (go_at_call 30; refine K0.out.mono ?_; rintro e1 w1 ⟨rfl, F1, hr1⟩; have d4 := (HD4.out.frr F1 (by have := HRB.out; omega)).al (.cells #[.int .i64 3, .int .i64 0, .bool false, .slice none 0 0, .string ⟨#[]⟩, .slice none 0 0, .slice none 0 0] 64); have d5 : DBx (w1.alloc (.cells #[.int .i64 3, .int .i64 0, .bool false, .slice none 0 0, .string ⟨#[]⟩, .slice none 0 0, .slice none 0 0] 64)) w1.heap.size (.int .i64 3) (.int .i64 0) (.bool false) (.slice none 0 0) (.string ⟨#[]⟩) (.slice none 0 0) (.slice none 0 0) := heap_alloc_new w1 _; have hs1 : w.heap.size < w1.heap.size := (HD4.out.frr F1 (by have := HRB.out; omega)).lt; have hr2 := hr1.mono (up_alloc w1 (.cells #[.int .i64 3, .int .i64 0, .bool false, .slice none 0 0, .string ⟨#[]⟩, .slice none 0 0, .slice none 0 0] 64)); have b1 := hr2.k1; have zz1 := hr2.fz 1; have x10 := d5.k0; have HS1 : Hid (w.heap.size < w1.heap.size) := hs1; have HR1 := hide hr2; have HD5 := hide d5; have HG5 := hide d4; have HF1 := hide ((HF0.out.trans F1 (fun _ _ e => e)).alloc (.cells #[.int .i64 3, .int .i64 0, .bool false, .slice none 0 0, .string ⟨#[]⟩, .slice none 0 0, .slice none 0 0] 64)); clear F1 hr1 hr2 d4 d5 hs1))
    refine bodyPost_ret (by simp [results, Try.results33, go_sem, kr0, kr1, kr2, kr3, kr4, kr5, kr6]; rfl) rfl ?_
    have eq : (p : Int) - 1 = ((p - 1 : Nat) : Int) := by omega
    refine okL.mkyes HO.out rfl ?_ ⟨set7_fr HF2.out (Nat.le_refl _) _ _ _ _ _ _ _, ?_⟩
    · exact ⟨_, _, _, rfl, hrng, nilSl _, (fun i hi => by cases hi), nilRow _ _, nilRow _ _, .inl rfl, .inl rfl, .inl rfl⟩
    · rw [← eq]
      exact HR2.out.set7 HRB.out _ _ _ _ _ _ _

end Go.Proofs.Ytilcigjhogcjkaa
