/-
  What is proved here: the reader's datum, kind by kind (package pack), given its parts.
-/
import Derived.Test.YtilcigjhogcjkaaPRC
import Derived.Test.YtilcigjhogcjkaaPKFit3
namespace Go.Proofs.Ytilcigjhogcjkaa
open Go Go.RowKit

theorem dat_no1 {h dp p k : Nat} {l m : List Nat} (hn : rdNum l = some (k, m)) (hf : rdFld (rdDat h dp) k m p = none) : rdDat (h + 1) (dp + 1) l p = none := by
  simp only [rdDat, hn, hf]
theorem dat_no2 {h dp p k q : Nat} {l m m' : List Nat} {d : Tr (h + 1)} (hn : rdNum l = some (k, m)) (hf : rdFld (rdDat h dp) k m p = some (d, m', q)) (hd : fit1 d = false) : rdDat (h + 1) (dp + 1) l p = none := by
  simp only [rdDat, hn, hf, hd]
  rfl
theorem dat_yes {h dp p k q : Nat} {l m m' : List Nat} {d : Tr (h + 1)} (hn : rdNum l = some (k, m)) (hf : rdFld (rdDat h dp) k m p = some (d, m', q)) (hd : fit1 d = true) : rdDat (h + 1) (dp + 1) l p = some (d, m', q) := by
  simp only [rdDat, hn, hf, hd]
  rfl
theorem RowU.sl {w : World} {B : Nat} {v : Value} {xs : List Nat} (h : RowU w B v xs) (hn : xs.length ≤ 100000000) : Sl .u32 w v xs.length (fun i => xs.getD i 0) ∧ VQ (fun b => B ≤ b) v xs.length := by
  rcases h with ⟨rfl, rfl⟩ | ⟨g, h1, rfl, cur, h2, h3, h4⟩
  · exact ⟨⟨none, 0, rfl, Nat.le_refl _, by decide, fun _ => rfl, .inl rfl⟩, .inl rfl⟩
  · refine ⟨⟨_, _, rfl, Nat.le_refl _, by omega, (fun e => by cases e), .inr ⟨g, 0, rfl, fun i hi => ?_⟩⟩, .inr ⟨_, _, _, rfl, h1⟩⟩
    rw [cell_of_row w g _ cur _ _ h2, ← Array.getElem?_toList, Nat.zero_add]
    have := congrArg (fun l : List Value => l[i]?) h4
    simp only [List.getElem?_take, List.length_map] at this
    rw [if_pos hi] at this
    rw [this]
    simp [List.getD_eq_getElem?_getD, hi]
theorem nilSl (w : World) : Sl .u32 w (.slice none 0 0) 0 (fun i => ([] : List Nat).getD i 0) := ⟨none, 0, rfl, Nat.le_refl _, by decide, fun _ => rfl, .inl rfl⟩
theorem nilRow {α : Type} (w : World) (P : α → List Value → Prop) : RowD w P (.slice none 0 0) ([] : List α) := ⟨none, 0, rfl, Nat.le_refl _, by decide, .inl rfl⟩
/-- fits of a datum that was read. -/
theorem fitsQ {h : Nat} {Q : Nat → Prop} {W : World} {k n : Int} {b : Bool} {L : List Nat} {t : ByteArray} {I R : List (Tr h)} {um ui ur : Value} (hq : DatQ Q W (h + 1) (k, n, b, L, t, I, R) [.int .i64 k, .int .i64 n, .bool b, um, .string t, ui, ur]) :
    Calls Try.prog 53 #[.agg #[.int .i64 k, .int .i64 n, .bool b, um, .string t, ui, ur]] W fun e w' => e = .returned (.bool (fit1 (h := h) (k, n, b, L, t, I, R))) ∧ Fr (fun _ => False) W w' := by
  obtain ⟨um', ui', ur', e, -, hM, hlim, hI, hR, -⟩ := hq
  simp at e
  obtain ⟨rfl, rfl, rfl⟩ := e
  obtain ⟨a1, p1, rfl, r1⟩ := id hM
  obtain ⟨a2, p2, rfl⟩ := hI.shape
  obtain ⟨a3, p3, rfl⟩ := hR.shape
  exact fits_any W W k n b L t I R a1 a2 a3 p1 p2 p3 hM hlim (hR.mono (fun _ _ h => h.dat)) (Up.refl W)
theorem rowQ_keep {h : Nat} {Q Q' : Nat → Prop} {w w' : World} {v : Value} {I : List (Tr h)} (H : RowD w (DatQ Q w h) v I) (hv : VQ Q v I.length) (hw : ∀ k, k < w.heap.size → Q k → w'.heap[k]? = w.heap[k]?) (hQ : ∀ k, Q k → Q' k) : RowD w' (DatQ Q' w' h) v I ∧ VQ Q' v I.length :=
  ⟨H.blk hv hw (fun _ _ q => q.keep hw (fun k _ hq => hQ k hq)), hv.imp id (fun ⟨a, l, c, ea, hq⟩ => ⟨a, l, c, ea, hQ _ hq⟩)⟩
theorem DBx.al {w : World} {B : Nat} {c0 c1 c2 c3 c4 c5 c6 : Value} (h : DBx w B c0 c1 c2 c3 c4 c5 c6) (o : Obj) : DBx (w.alloc o) B c0 c1 c2 c3 c4 c5 c6 := (heap_alloc_old _ _ (Array.getElem?_eq_some_iff.1 h).1).trans h
theorem DBx.oo {w : World} {B g i : Nat} {c0 c1 c2 c3 c4 c5 c6 x : Value} (h : DBx w B c0 c1 c2 c3 c4 c5 c6) (hn : B ≠ g) : DBx (w.setCell ⟨g, i, none⟩ x) B c0 c1 c2 c3 c4 c5 c6 := (heap_setCell_other _ _ _ _ hn).trans h

theorem sgn_rng {l m : List Nat} {n : Int} (h : rdSgn l = some (n, m)) : -9223372036854775808 ≤ n ∧ n ≤ 9223372036854775807 := by
  unfold rdSgn at h
  split at h
  · cases h
  · rename_i hn
    have := rdNum_le hn
    cases h
    unfold unS
    split <;> omega
theorem row_len {α : Type} {f : List Nat → Option (α × List Nat)} : ∀ (n : Nat) (l : List Nat) (xs : List α) (m : List Nat), rdRow f n l = some (xs, m) → xs.length = n
  | 0, l, xs, m, h => by
    rw [rdRow_zero] at h
    cases h
    rfl
  | n + 1, l, xs, m, h => by
    simp only [rdRow] at h
    split at h
    · cases h
    · split at h
      · cases h
      · rename_i h2
        cases h
        have := row_len n _ _ _ h2
        simp [this]
theorem mag_len {l m : List Nat} {b : Bool} {L : List Nat} (h : rdMag l = some ((b, L), m)) : L.length ≤ l.length := by
  unfold rdMag at h
  split at h
  · cases h
  · rename_i h1
    split at h
    · cases h
    · rename_i h2
      split at h
      · cases h
      · rename_i h3
        cases h
        have a := rdCnt_len h2
        have b := rdFlag_len h1
        have c := row_len _ _ _ _ h3
        rw [Nat.div_one] at a
        omega

set_option maxRecDepth 20000 in
set_option maxHeartbeats 4000000 in
theorem datum_o {h : Nat} (_hD : DTOK h) (_hT : RTOKr h) (w0 w : World) (rb p dp k : Nat) (l m : List Nat) (hr : RS w0 w rb l p) (h8 : By8 l) (_hl : l.length ≤ 100000000) (_hp : p ≤ 20000) (hd : dp + 1 ≤ 100) (_hh : dp ≤ h) (hn : rdNum l = some (k, m)) (hk : ¬ (1 ≤ k ∧ k ≤ 7) ∧ k ≠ 9) :
    Calls Try.prog 77 #[.pointer (some ⟨rb, 0, none⟩), .int .i64 ((dp + 1 : Nat) : Int)] w fun e w' => RQ w rb (okD w0 rb w.heap.size) (rdDat (h + 1) (dp + 1) l p) e w' := by
  obtain ⟨out, hout⟩ : ∃ o, o = rdDat (h + 1) (dp + 1) l p := ⟨_, rfl⟩
  rw [← hout]
  have hrb := hr.lt
  have hlm := rdNum_len hn
  have h8m := rdNum_by8 hn h8
  have hkl := rdNum_le hn
  have hdI : (0 : Int) < ((dp + 1 : Nat) : Int) := by omega
  have edp : ((dp + 1 : Nat) : Int) - 1 = (dp : Int) := by omega
  have HR0 := hide (hr.mono (up_alloc w (.cells #[.int .i64 0, .int .i64 0, .bool false, .slice none 0 0, .string ⟨#[]⟩, .slice none 0 0, .slice none 0 0] 64)))
  have HD4 : Hid (DBx (w.alloc (.cells #[.int .i64 0, .int .i64 0, .bool false, .slice none 0 0, .string ⟨#[]⟩, .slice none 0 0, .slice none 0 0] 64)) w.heap.size (.int .i64 0) (.int .i64 0) (.bool false) (.slice none 0 0) (.string ⟨#[]⟩) (.slice none 0 0) (.slice none 0 0)) := heap_alloc_new w _
  have HF0 : Hid (Fr (fun j => j = rb) w (w.alloc (.cells #[.int .i64 0, .int .i64 0, .bool false, .slice none 0 0, .string ⟨#[]⟩, .slice none 0 0, .slice none 0 0] 64))) := (Fr.refl _ w).alloc _
  have K0 := hide (rdnum_yes HR0.out h8 hn)
  have HMY := hide (fun (W : World) => must_yes W)
  have HMN := hide (fun (W : World) => must_no W)
  have gk1 : ((k : Int) == 1) = false := by rw [beq_eq_false_iff_ne]; omega
  have gk2 : ((k : Int) == 2) = false := by rw [beq_eq_false_iff_ne]; omega
  have gk3 : ((k : Int) == 3) = false := by rw [beq_eq_false_iff_ne]; omega
  have gk4 : ((k : Int) == 4) = false := by rw [beq_eq_false_iff_ne]; omega
  have gk5 : ((k : Int) == 5) = false := by rw [beq_eq_false_iff_ne]; omega
  have gk6 : ((k : Int) == 6) = false := by rw [beq_eq_false_iff_ne]; omega
  have gk7 : ((k : Int) == 7) = false := by rw [beq_eq_false_iff_ne]; omega
  have gk9 : ((k : Int) == 9) = false := by rw [beq_eq_false_iff_ne]; omega
  have hfld : rdFld (rdDat h dp) k m p = some (((k : Int), (0 : Int), false, [], ⟨#[]⟩, [], []), m, p) := by unfold rdFld; rw [if_neg (by omega), if_neg (by omega), if_neg (by omega), if_neg (by omega), if_neg (by omega), if_neg (by omega)]; rfl
  cases hfit : fit1 (h := h) ((k : Int), (0 : Int), false, [], ⟨#[]⟩, [], []) with
  | false =>
    have HO : Hid (out = none) := hout.trans (dat_no2 hn hfld hfit)
    have HFIT := hide hfit
    clear hr h8 h8m hn hout _hD _hT hfld hfit
    go_enter Try.func77, Try.ntmps77
    go_wp2_with (first
      | (go_at_call 53; have hq : DatQ (fun b => w1.heap.size < b) (w1.alloc (.cells #[.int .i64 (k : Int), .int .i64 0, .bool false, .slice none 0 0, .string ⟨#[]⟩, .slice none 0 0, .slice none 0 0] 64)) (h + 1) ((k : Int), (0 : Int), false, [], ⟨#[]⟩, [], []) [.int .i64 (k : Int), .int .i64 0, .bool false, .slice none 0 0, .string ⟨#[]⟩, .slice none 0 0, .slice none 0 0] := ⟨_, _, _, rfl, by omega, nilSl _, (fun i hi => by cases hi), nilRow _ _, nilRow _ _, .inl rfl, .inl rfl, .inl rfl⟩; have hfq := fitsQ hq; rw [HFIT.out] at hfq; refine hfq.mono ?_; clear hfq; rintro e8 w8 ⟨rfl, F8⟩; have d5 := HE1.out.fr F8; have d4 := HG1.out.fr F8; have HQ8 := hide (hq.keep (w' := w8) (fun k hk _ => F8.block k hk (fun e => e)) (fun _ _ hq => hq)); have HA8 := hide (HA1.out.mono F8.upw2); have HF8 := hide (HF1.out.trans F8 (fun _ _ e => e.elim)); have x80 := d5.k0; have x81 := d5.k1; have x82 := d5.k2; have x83 := d5.k3; have x84 := d5.k4; have x85 := d5.k5; have x86 := d5.k6; have fz80 := d4.fz 0; have ky80 := d4.k0; have S0 := d4.s0 (.int .i64 (k : Int)); have fz81 := S0.fz 1; have ky81 := S0.k1; have S1 := S0.s1 (.int .i64 0); have fz82 := S1.fz 2; have ky82 := S1.k2; have S2 := S1.s2 (.bool false); have fz83 := S2.fz 3; have ky83 := S2.k3; have S3 := S2.s3 (.slice none 0 0); have fz84 := S3.fz 4; have ky84 := S3.k4; have S4 := S3.s4 (.string ⟨#[]⟩); have fz85 := S4.fz 5; have ky85 := S4.k5; have S5 := S4.s5 (.slice none 0 0); have fz86 := S5.fz 6; have ky86 := S5.k6; have S6 := S5.s6 (.slice none 0 0); have kr0 := S6.k0; have kr1 := S6.k1; have kr2 := S6.k2; have kr3 := S6.k3; have kr4 := S6.k4; have kr5 := S6.k5; have kr6 := S6.k6; clear F8 hq d5 d4 S0 S1 S2 S3 S4 S5 S6)
      | (go_at_call 60; refine K0.out.mono ?_; rintro e1 w1 ⟨rfl, hr1, F1⟩; have d4 := (HD4.out.frr F1 (by omega)).al (.cells #[.int .i64 (k : Int), .int .i64 0, .bool false, .slice none 0 0, .string ⟨#[]⟩, .slice none 0 0, .slice none 0 0] 64); have d5 : DBx (w1.alloc (.cells #[.int .i64 (k : Int), .int .i64 0, .bool false, .slice none 0 0, .string ⟨#[]⟩, .slice none 0 0, .slice none 0 0] 64)) w1.heap.size (.int .i64 (k : Int)) (.int .i64 0) (.bool false) (.slice none 0 0) (.string ⟨#[]⟩) (.slice none 0 0) (.slice none 0 0) := heap_alloc_new w1 _; have HS1 : Hid (w.heap.size < w1.heap.size) := (HD4.out.frr F1 (by omega)).lt; have HA1 := hide (hr1.mono (up_alloc w1 (.cells #[.int .i64 (k : Int), .int .i64 0, .bool false, .slice none 0 0, .string ⟨#[]⟩, .slice none 0 0, .slice none 0 0] 64))); have HE1 := hide d5; have HG1 := hide d4; have HF1 := hide ((HF0.out.trans F1 (fun _ _ e => e)).alloc (.cells #[.int .i64 (k : Int), .int .i64 0, .bool false, .slice none 0 0, .string ⟨#[]⟩, .slice none 0 0, .slice none 0 0] 64)); have x10 := d5.k0; have x11 := d5.k1; have x12 := d5.k2; have x13 := d5.k3; have x14 := d5.k4; have x15 := d5.k5; have x16 := d5.k6; clear F1 hr1 d4 d5)
      | (go_at_call_of 46 (Value.bool true); refine (HMY.out _).mono ?_; rintro e9 w9 ⟨rfl, hw⟩; replace hw := hw.symm; subst hw)
      | (go_at_call_of 46 (Value.bool false); refine (HMN.out _).mono ?_; rintro e9 w9 ⟨rfl, hw⟩; replace hw := hw.symm; subst hw))
    exact ⟨rfl, RQ.mkno HO.out HF8.out⟩
  | true =>
    have HO : Hid (out = some (((k : Int), (0 : Int), false, [], ⟨#[]⟩, [], []), m, p)) := hout.trans (dat_yes hn hfld hfit)
    have HFIT := hide hfit
    clear hr h8 h8m hn hout _hD _hT hfld hfit
    go_enter Try.func77, Try.ntmps77
    go_wp2_with (first
      | (go_at_call 53; have hq : DatQ (fun b => w1.heap.size < b) (w1.alloc (.cells #[.int .i64 (k : Int), .int .i64 0, .bool false, .slice none 0 0, .string ⟨#[]⟩, .slice none 0 0, .slice none 0 0] 64)) (h + 1) ((k : Int), (0 : Int), false, [], ⟨#[]⟩, [], []) [.int .i64 (k : Int), .int .i64 0, .bool false, .slice none 0 0, .string ⟨#[]⟩, .slice none 0 0, .slice none 0 0] := ⟨_, _, _, rfl, by omega, nilSl _, (fun i hi => by cases hi), nilRow _ _, nilRow _ _, .inl rfl, .inl rfl, .inl rfl⟩; have hfq := fitsQ hq; rw [HFIT.out] at hfq; refine hfq.mono ?_; clear hfq; rintro e8 w8 ⟨rfl, F8⟩; have d5 := HE1.out.fr F8; have d4 := HG1.out.fr F8; have HQ8 := hide (hq.keep (w' := w8) (fun k hk _ => F8.block k hk (fun e => e)) (fun _ _ hq => hq)); have HA8 := hide (HA1.out.mono F8.upw2); have HF8 := hide (HF1.out.trans F8 (fun _ _ e => e.elim)); have x80 := d5.k0; have x81 := d5.k1; have x82 := d5.k2; have x83 := d5.k3; have x84 := d5.k4; have x85 := d5.k5; have x86 := d5.k6; have fz80 := d4.fz 0; have ky80 := d4.k0; have S0 := d4.s0 (.int .i64 (k : Int)); have fz81 := S0.fz 1; have ky81 := S0.k1; have S1 := S0.s1 (.int .i64 0); have fz82 := S1.fz 2; have ky82 := S1.k2; have S2 := S1.s2 (.bool false); have fz83 := S2.fz 3; have ky83 := S2.k3; have S3 := S2.s3 (.slice none 0 0); have fz84 := S3.fz 4; have ky84 := S3.k4; have S4 := S3.s4 (.string ⟨#[]⟩); have fz85 := S4.fz 5; have ky85 := S4.k5; have S5 := S4.s5 (.slice none 0 0); have fz86 := S5.fz 6; have ky86 := S5.k6; have S6 := S5.s6 (.slice none 0 0); have kr0 := S6.k0; have kr1 := S6.k1; have kr2 := S6.k2; have kr3 := S6.k3; have kr4 := S6.k4; have kr5 := S6.k5; have kr6 := S6.k6; clear F8 hq d5 d4 S0 S1 S2 S3 S4 S5 S6)
      | (go_at_call 60; refine K0.out.mono ?_; rintro e1 w1 ⟨rfl, hr1, F1⟩; have d4 := (HD4.out.frr F1 (by omega)).al (.cells #[.int .i64 (k : Int), .int .i64 0, .bool false, .slice none 0 0, .string ⟨#[]⟩, .slice none 0 0, .slice none 0 0] 64); have d5 : DBx (w1.alloc (.cells #[.int .i64 (k : Int), .int .i64 0, .bool false, .slice none 0 0, .string ⟨#[]⟩, .slice none 0 0, .slice none 0 0] 64)) w1.heap.size (.int .i64 (k : Int)) (.int .i64 0) (.bool false) (.slice none 0 0) (.string ⟨#[]⟩) (.slice none 0 0) (.slice none 0 0) := heap_alloc_new w1 _; have HS1 : Hid (w.heap.size < w1.heap.size) := (HD4.out.frr F1 (by omega)).lt; have HA1 := hide (hr1.mono (up_alloc w1 (.cells #[.int .i64 (k : Int), .int .i64 0, .bool false, .slice none 0 0, .string ⟨#[]⟩, .slice none 0 0, .slice none 0 0] 64))); have HE1 := hide d5; have HG1 := hide d4; have HF1 := hide ((HF0.out.trans F1 (fun _ _ e => e)).alloc (.cells #[.int .i64 (k : Int), .int .i64 0, .bool false, .slice none 0 0, .string ⟨#[]⟩, .slice none 0 0, .slice none 0 0] 64)); have x10 := d5.k0; have x11 := d5.k1; have x12 := d5.k2; have x13 := d5.k3; have x14 := d5.k4; have x15 := d5.k5; have x16 := d5.k6; clear F1 hr1 d4 d5)
      | (go_at_call_of 46 (Value.bool true); refine (HMY.out _).mono ?_; rintro e9 w9 ⟨rfl, hw⟩; replace hw := hw.symm; subst hw))
    refine bodyPost_ret (by simp [results, Try.results77, go_sem, kr0, kr1, kr2, kr3, kr4, kr5, kr6]; rfl) rfl ?_
    have hs1 := HS1.out
    exact RQ.mk' HO.out (set7_fr HF8.out (Nat.le_refl _) _ _ _ _ _ _ _) ⟨_, _, _, _, _, _, _, _, _, _, _, _, _, rfl, HQ8.out.keep (w' := set7 w8 w.heap.size (.int .i64 (k : Int)) (.int .i64 0) (.bool false) (.slice none 0 0) (.string ⟨#[]⟩) (.slice none 0 0) (.slice none 0 0)) (fun k hk hq => set7_other (by omega) _ _ _ _ _ _ _) (fun k hk hq => by omega), set7_rs HA8.out hrb _ _ _ _ _ _ _⟩

set_option maxRecDepth 20000 in
set_option maxHeartbeats 4000000 in
theorem datum_1 {h : Nat} (_hD : DTOK h) (_hT : RTOKr h) (w0 w : World) (rb p dp : Nat) (l m : List Nat) (hr : RS w0 w rb l p) (h8 : By8 l) (hl : l.length ≤ 100000000) (_hp : p ≤ 20000) (hd : dp + 1 ≤ 100) (_hh : dp ≤ h) (hn : rdNum l = some (1, m)) :
    Calls Try.prog 77 #[.pointer (some ⟨rb, 0, none⟩), .int .i64 ((dp + 1 : Nat) : Int)] w fun e w' => RQ w rb (okD w0 rb w.heap.size) (rdDat (h + 1) (dp + 1) l p) e w' := by
  obtain ⟨out, hout⟩ : ∃ o, o = rdDat (h + 1) (dp + 1) l p := ⟨_, rfl⟩
  rw [← hout]
  have hrb := hr.lt
  have hlm := rdNum_len hn
  have h8m := rdNum_by8 hn h8
  have hkl := rdNum_le hn
  have hdI : (0 : Int) < ((dp + 1 : Nat) : Int) := by omega
  have edp : ((dp + 1 : Nat) : Int) - 1 = (dp : Int) := by omega
  have HR0 := hide (hr.mono (up_alloc w (.cells #[.int .i64 0, .int .i64 0, .bool false, .slice none 0 0, .string ⟨#[]⟩, .slice none 0 0, .slice none 0 0] 64)))
  have HD4 : Hid (DBx (w.alloc (.cells #[.int .i64 0, .int .i64 0, .bool false, .slice none 0 0, .string ⟨#[]⟩, .slice none 0 0, .slice none 0 0] 64)) w.heap.size (.int .i64 0) (.int .i64 0) (.bool false) (.slice none 0 0) (.string ⟨#[]⟩) (.slice none 0 0) (.slice none 0 0)) := heap_alloc_new w _
  have HF0 : Hid (Fr (fun j => j = rb) w (w.alloc (.cells #[.int .i64 0, .int .i64 0, .bool false, .slice none 0 0, .string ⟨#[]⟩, .slice none 0 0, .slice none 0 0] 64))) := (Fr.refl _ w).alloc _
  have K0 := hide (rdnum_yes HR0.out h8 hn)
  have HMY := hide (fun (W : World) => must_yes W)
  have HMN := hide (fun (W : World) => must_no W)
  cases hx2 : rdMag m with
  | none =>
    have hfld : rdFld (rdDat h dp) 1 m p = none := by simp [rdFld, hx2]
    have K2 := hide (fun (W : World) (h' : RS w0 W rb m p) => (rdmag_any w0 W rb p m h' h8m (by omega)).mono (fun _ _ q => q.no hx2))
    have HO : Hid (out = none) := hout.trans (dat_no1 hn hfld)
    clear hr h8 h8m hn hout _hD _hT hfld hx2
    go_enter Try.func77, Try.ntmps77
    go_wp2_with (first
      | (go_at_call 82; refine (K2.out _ HA1.out).mono ?_; rintro e2 w2 ⟨rfl, F2⟩; have HF2 := hide (HF1.out.trans F2 (fun _ _ e => e)); clear F2)
      | (go_at_call 60; refine K0.out.mono ?_; rintro e1 w1 ⟨rfl, hr1, F1⟩; have d4 := (HD4.out.frr F1 (by omega)).al (.cells #[.int .i64 1, .int .i64 0, .bool false, .slice none 0 0, .string ⟨#[]⟩, .slice none 0 0, .slice none 0 0] 64); have d5 : DBx (w1.alloc (.cells #[.int .i64 1, .int .i64 0, .bool false, .slice none 0 0, .string ⟨#[]⟩, .slice none 0 0, .slice none 0 0] 64)) w1.heap.size (.int .i64 1) (.int .i64 0) (.bool false) (.slice none 0 0) (.string ⟨#[]⟩) (.slice none 0 0) (.slice none 0 0) := heap_alloc_new w1 _; have HS1 : Hid (w.heap.size < w1.heap.size) := (HD4.out.frr F1 (by omega)).lt; have HA1 := hide (hr1.mono (up_alloc w1 (.cells #[.int .i64 1, .int .i64 0, .bool false, .slice none 0 0, .string ⟨#[]⟩, .slice none 0 0, .slice none 0 0] 64))); have HE1 := hide d5; have HG1 := hide d4; have HF1 := hide ((HF0.out.trans F1 (fun _ _ e => e)).alloc (.cells #[.int .i64 1, .int .i64 0, .bool false, .slice none 0 0, .string ⟨#[]⟩, .slice none 0 0, .slice none 0 0] 64)); have x10 := d5.k0; have x11 := d5.k1; have x12 := d5.k2; have x13 := d5.k3; have x14 := d5.k4; have x15 := d5.k5; have x16 := d5.k6; clear F1 hr1 d4 d5)
      | (go_at_call_of 46 (Value.bool true); refine (HMY.out _).mono ?_; rintro e9 w9 ⟨rfl, hw⟩; replace hw := hw.symm; subst hw))
    exact ⟨rfl, RQ.mkno HO.out HF2.out⟩
  | some y2 =>
    obtain ⟨⟨b, L⟩, ma⟩ := y2
    have hsf2 := rdMag_suf hx2
    have h8ma := h8m.suf hsf2.1
    have hln2 := (hsf2.1).length_le
    have K2 := hide (fun (W : World) (h' : RS w0 W rb m p) => (rdmag_any w0 W rb p m h' h8m (by omega)).mono (fun _ _ q => q.yes hx2))
    have hfld : rdFld (rdDat h dp) 1 m p = some (((1 : Int), (0 : Int), b, L, ⟨#[]⟩, [], []), ma, p) := by simp [rdFld, hx2] <;> rfl
    cases hfit : fit1 (h := h) ((1 : Int), (0 : Int), b, L, ⟨#[]⟩, [], []) with
    | false =>
      have HO : Hid (out = none) := hout.trans (dat_no2 hn hfld hfit)
      have hLl : L.length ≤ 100000000 := by have := mag_len hx2; omega
      have hLim : ∀ i, i < L.length → L.getD i 0 < 4294967296 := fun i hi => hsf2.2 _ (by simp [List.getD_eq_getElem?_getD, hi])
      have HFIT := hide hfit
      clear hr h8 h8m hn hout _hD _hT hx2 hsf2 h8ma hln2 hfld hfit
      go_enter Try.func77, Try.ntmps77
      go_wp2_with (first
        | (go_at_call 53; have hq : DatQ (fun b => w1.heap.size < b) ((w2.setCell ⟨w1.heap.size, 2, none⟩ (.bool b)).setCell ⟨w1.heap.size, 3, none⟩ (.slice ao2 L.length L.length)) (h + 1) ((1 : Int), (0 : Int), b, L, ⟨#[]⟩, [], []) [.int .i64 1, .int .i64 0, .bool b, .slice ao2 L.length L.length, .string ⟨#[]⟩, .slice none 0 0, .slice none 0 0] := (by have hS := (((HV2.out.so (g := w1.heap.size) (i := 2) (x := .bool b) (HB2.out)).so (g := w1.heap.size) (i := 3) (x := .slice ao2 L.length L.length) HB2.out).sl (by omega)); exact ⟨_, _, _, rfl, by omega, hS.1, hLim, nilRow _ _, nilRow _ _, (hS.2.imp id (fun ⟨a, l, c, ea, hq⟩ => ⟨a, l, c, ea, by simp at hq; omega⟩)), .inl rfl, .inl rfl⟩); have hfq := fitsQ hq; rw [HFIT.out] at hfq; refine hfq.mono ?_; clear hfq; rintro e8 w8 ⟨rfl, F8⟩; have d5 := HE2.out.fr F8; have d4 := HG2.out.fr F8; have HQ8 := hide (hq.keep (w' := w8) (fun k hk _ => F8.block k hk (fun e => e)) (fun _ _ hq => hq)); have HA8 := hide (HA2.out.mono F8.upw2); have HF8 := hide (HF2.out.trans F8 (fun _ _ e => e.elim)); have x80 := d5.k0; have x81 := d5.k1; have x82 := d5.k2; have x83 := d5.k3; have x84 := d5.k4; have x85 := d5.k5; have x86 := d5.k6; have fz80 := d4.fz 0; have ky80 := d4.k0; have S0 := d4.s0 (.int .i64 1); have fz81 := S0.fz 1; have ky81 := S0.k1; have S1 := S0.s1 (.int .i64 0); have fz82 := S1.fz 2; have ky82 := S1.k2; have S2 := S1.s2 (.bool b); have fz83 := S2.fz 3; have ky83 := S2.k3; have S3 := S2.s3 (.slice ao2 L.length L.length); have fz84 := S3.fz 4; have ky84 := S3.k4; have S4 := S3.s4 (.string ⟨#[]⟩); have fz85 := S4.fz 5; have ky85 := S4.k5; have S5 := S4.s5 (.slice none 0 0); have fz86 := S5.fz 6; have ky86 := S5.k6; have S6 := S5.s6 (.slice none 0 0); have kr0 := S6.k0; have kr1 := S6.k1; have kr2 := S6.k2; have kr3 := S6.k3; have kr4 := S6.k4; have kr5 := S6.k5; have kr6 := S6.k6; clear F8 hq d5 d4 S0 S1 S2 S3 S4 S5 S6)
        | (go_at_call 82; refine (K2.out _ HA1.out).mono ?_; rintro e2 w2 ⟨⟨v2, rfl, hv2, hr2⟩, F2⟩; obtain ⟨ao2, rfl⟩ := hv2.shape; have d5 := HE1.out.frr F2 (by have := HS1.out; omega); have d4 := HG1.out.frr F2 (by omega); have a5 := hr2; have fz20 := d5.fz 2; have ky20 := d5.k2; have e50 := d5.s2 (.bool b); have d40 := (d4).oo (g := w1.heap.size) (i := 2) (x := .bool b) (by have := HS1.out; omega); have a50 := (a5).setO (g := w1.heap.size) (i := 2) (u := .bool b) (by have := HS1.out; omega); have fz21 := e50.fz 3; have ky21 := e50.k3; have e51 := e50.s3 (.slice ao2 L.length L.length); have d41 := (d40).oo (g := w1.heap.size) (i := 3) (x := .slice ao2 L.length L.length) (by have := HS1.out; omega); have a51 := (a50).setO (g := w1.heap.size) (i := 3) (u := .slice ao2 L.length L.length) (by have := HS1.out; omega); have HF2 : Hid (Fr (fun j => j = rb) w _) := (((HF1.out.trans F2 (fun _ _ e => e)).setCell (g := w1.heap.size) (fun e => by have := HS1.out; omega) 2 (.bool b)).setCell (g := w1.heap.size) (fun e => by have := HS1.out; omega) 3 (.slice ao2 L.length L.length)); have HE2 := hide e51; have HG2 := hide d41; have HA2 := hide a51; have x20 := e51.k0; have x21 := e51.k1; have x22 := e51.k2; have x23 := e51.k3; have x24 := e51.k4; have x25 := e51.k5; have x26 := e51.k6; have HV2 := hide hv2; have HB2 : Hid (w1.heap.size < (w1.alloc (.cells #[.int .i64 1, .int .i64 0, .bool false, .slice none 0 0, .string ⟨#[]⟩, .slice none 0 0, .slice none 0 0] 64)).heap.size) := (by unfold Hid; simp); clear F2 hr2 d5 d4 a5 e50 d40 a50 e51 d41 a51 hv2)
        | (go_at_call 60; refine K0.out.mono ?_; rintro e1 w1 ⟨rfl, hr1, F1⟩; have d4 := (HD4.out.frr F1 (by omega)).al (.cells #[.int .i64 1, .int .i64 0, .bool false, .slice none 0 0, .string ⟨#[]⟩, .slice none 0 0, .slice none 0 0] 64); have d5 : DBx (w1.alloc (.cells #[.int .i64 1, .int .i64 0, .bool false, .slice none 0 0, .string ⟨#[]⟩, .slice none 0 0, .slice none 0 0] 64)) w1.heap.size (.int .i64 1) (.int .i64 0) (.bool false) (.slice none 0 0) (.string ⟨#[]⟩) (.slice none 0 0) (.slice none 0 0) := heap_alloc_new w1 _; have HS1 : Hid (w.heap.size < w1.heap.size) := (HD4.out.frr F1 (by omega)).lt; have HA1 := hide (hr1.mono (up_alloc w1 (.cells #[.int .i64 1, .int .i64 0, .bool false, .slice none 0 0, .string ⟨#[]⟩, .slice none 0 0, .slice none 0 0] 64))); have HE1 := hide d5; have HG1 := hide d4; have HF1 := hide ((HF0.out.trans F1 (fun _ _ e => e)).alloc (.cells #[.int .i64 1, .int .i64 0, .bool false, .slice none 0 0, .string ⟨#[]⟩, .slice none 0 0, .slice none 0 0] 64)); have x10 := d5.k0; have x11 := d5.k1; have x12 := d5.k2; have x13 := d5.k3; have x14 := d5.k4; have x15 := d5.k5; have x16 := d5.k6; clear F1 hr1 d4 d5)
        | (go_at_call_of 46 (Value.bool true); refine (HMY.out _).mono ?_; rintro e9 w9 ⟨rfl, hw⟩; replace hw := hw.symm; subst hw)
        | (go_at_call_of 46 (Value.bool false); refine (HMN.out _).mono ?_; rintro e9 w9 ⟨rfl, hw⟩; replace hw := hw.symm; subst hw))
      exact ⟨rfl, RQ.mkno HO.out HF8.out⟩
    | true =>
      have HO : Hid (out = some (((1 : Int), (0 : Int), b, L, ⟨#[]⟩, [], []), ma, p)) := hout.trans (dat_yes hn hfld hfit)
      have hLl : L.length ≤ 100000000 := by have := mag_len hx2; omega
      have hLim : ∀ i, i < L.length → L.getD i 0 < 4294967296 := fun i hi => hsf2.2 _ (by simp [List.getD_eq_getElem?_getD, hi])
      have HFIT := hide hfit
      clear hr h8 h8m hn hout _hD _hT hx2 hsf2 h8ma hln2 hfld hfit
      go_enter Try.func77, Try.ntmps77
      go_wp2_with (first
        | (go_at_call 53; have hq : DatQ (fun b => w1.heap.size < b) ((w2.setCell ⟨w1.heap.size, 2, none⟩ (.bool b)).setCell ⟨w1.heap.size, 3, none⟩ (.slice ao2 L.length L.length)) (h + 1) ((1 : Int), (0 : Int), b, L, ⟨#[]⟩, [], []) [.int .i64 1, .int .i64 0, .bool b, .slice ao2 L.length L.length, .string ⟨#[]⟩, .slice none 0 0, .slice none 0 0] := (by have hS := (((HV2.out.so (g := w1.heap.size) (i := 2) (x := .bool b) (HB2.out)).so (g := w1.heap.size) (i := 3) (x := .slice ao2 L.length L.length) HB2.out).sl (by omega)); exact ⟨_, _, _, rfl, by omega, hS.1, hLim, nilRow _ _, nilRow _ _, (hS.2.imp id (fun ⟨a, l, c, ea, hq⟩ => ⟨a, l, c, ea, by simp at hq; omega⟩)), .inl rfl, .inl rfl⟩); have hfq := fitsQ hq; rw [HFIT.out] at hfq; refine hfq.mono ?_; clear hfq; rintro e8 w8 ⟨rfl, F8⟩; have d5 := HE2.out.fr F8; have d4 := HG2.out.fr F8; have HQ8 := hide (hq.keep (w' := w8) (fun k hk _ => F8.block k hk (fun e => e)) (fun _ _ hq => hq)); have HA8 := hide (HA2.out.mono F8.upw2); have HF8 := hide (HF2.out.trans F8 (fun _ _ e => e.elim)); have x80 := d5.k0; have x81 := d5.k1; have x82 := d5.k2; have x83 := d5.k3; have x84 := d5.k4; have x85 := d5.k5; have x86 := d5.k6; have fz80 := d4.fz 0; have ky80 := d4.k0; have S0 := d4.s0 (.int .i64 1); have fz81 := S0.fz 1; have ky81 := S0.k1; have S1 := S0.s1 (.int .i64 0); have fz82 := S1.fz 2; have ky82 := S1.k2; have S2 := S1.s2 (.bool b); have fz83 := S2.fz 3; have ky83 := S2.k3; have S3 := S2.s3 (.slice ao2 L.length L.length); have fz84 := S3.fz 4; have ky84 := S3.k4; have S4 := S3.s4 (.string ⟨#[]⟩); have fz85 := S4.fz 5; have ky85 := S4.k5; have S5 := S4.s5 (.slice none 0 0); have fz86 := S5.fz 6; have ky86 := S5.k6; have S6 := S5.s6 (.slice none 0 0); have kr0 := S6.k0; have kr1 := S6.k1; have kr2 := S6.k2; have kr3 := S6.k3; have kr4 := S6.k4; have kr5 := S6.k5; have kr6 := S6.k6; clear F8 hq d5 d4 S0 S1 S2 S3 S4 S5 S6)
        | (go_at_call 82; refine (K2.out _ HA1.out).mono ?_; rintro e2 w2 ⟨⟨v2, rfl, hv2, hr2⟩, F2⟩; obtain ⟨ao2, rfl⟩ := hv2.shape; have d5 := HE1.out.frr F2 (by have := HS1.out; omega); have d4 := HG1.out.frr F2 (by omega); have a5 := hr2; have fz20 := d5.fz 2; have ky20 := d5.k2; have e50 := d5.s2 (.bool b); have d40 := (d4).oo (g := w1.heap.size) (i := 2) (x := .bool b) (by have := HS1.out; omega); have a50 := (a5).setO (g := w1.heap.size) (i := 2) (u := .bool b) (by have := HS1.out; omega); have fz21 := e50.fz 3; have ky21 := e50.k3; have e51 := e50.s3 (.slice ao2 L.length L.length); have d41 := (d40).oo (g := w1.heap.size) (i := 3) (x := .slice ao2 L.length L.length) (by have := HS1.out; omega); have a51 := (a50).setO (g := w1.heap.size) (i := 3) (u := .slice ao2 L.length L.length) (by have := HS1.out; omega); have HF2 : Hid (Fr (fun j => j = rb) w _) := (((HF1.out.trans F2 (fun _ _ e => e)).setCell (g := w1.heap.size) (fun e => by have := HS1.out; omega) 2 (.bool b)).setCell (g := w1.heap.size) (fun e => by have := HS1.out; omega) 3 (.slice ao2 L.length L.length)); have HE2 := hide e51; have HG2 := hide d41; have HA2 := hide a51; have x20 := e51.k0; have x21 := e51.k1; have x22 := e51.k2; have x23 := e51.k3; have x24 := e51.k4; have x25 := e51.k5; have x26 := e51.k6; have HV2 := hide hv2; have HB2 : Hid (w1.heap.size < (w1.alloc (.cells #[.int .i64 1, .int .i64 0, .bool false, .slice none 0 0, .string ⟨#[]⟩, .slice none 0 0, .slice none 0 0] 64)).heap.size) := (by unfold Hid; simp); clear F2 hr2 d5 d4 a5 e50 d40 a50 e51 d41 a51 hv2)
        | (go_at_call 60; refine K0.out.mono ?_; rintro e1 w1 ⟨rfl, hr1, F1⟩; have d4 := (HD4.out.frr F1 (by omega)).al (.cells #[.int .i64 1, .int .i64 0, .bool false, .slice none 0 0, .string ⟨#[]⟩, .slice none 0 0, .slice none 0 0] 64); have d5 : DBx (w1.alloc (.cells #[.int .i64 1, .int .i64 0, .bool false, .slice none 0 0, .string ⟨#[]⟩, .slice none 0 0, .slice none 0 0] 64)) w1.heap.size (.int .i64 1) (.int .i64 0) (.bool false) (.slice none 0 0) (.string ⟨#[]⟩) (.slice none 0 0) (.slice none 0 0) := heap_alloc_new w1 _; have HS1 : Hid (w.heap.size < w1.heap.size) := (HD4.out.frr F1 (by omega)).lt; have HA1 := hide (hr1.mono (up_alloc w1 (.cells #[.int .i64 1, .int .i64 0, .bool false, .slice none 0 0, .string ⟨#[]⟩, .slice none 0 0, .slice none 0 0] 64))); have HE1 := hide d5; have HG1 := hide d4; have HF1 := hide ((HF0.out.trans F1 (fun _ _ e => e)).alloc (.cells #[.int .i64 1, .int .i64 0, .bool false, .slice none 0 0, .string ⟨#[]⟩, .slice none 0 0, .slice none 0 0] 64)); have x10 := d5.k0; have x11 := d5.k1; have x12 := d5.k2; have x13 := d5.k3; have x14 := d5.k4; have x15 := d5.k5; have x16 := d5.k6; clear F1 hr1 d4 d5)
        | (go_at_call_of 46 (Value.bool true); refine (HMY.out _).mono ?_; rintro e9 w9 ⟨rfl, hw⟩; replace hw := hw.symm; subst hw))
      refine bodyPost_ret (by simp [results, Try.results77, go_sem, kr0, kr1, kr2, kr3, kr4, kr5, kr6]; rfl) rfl ?_
      have hs1 := HS1.out
      exact RQ.mk' HO.out (set7_fr HF8.out (Nat.le_refl _) _ _ _ _ _ _ _) ⟨_, _, _, _, _, _, _, _, _, _, _, _, _, rfl, HQ8.out.keep (w' := set7 w8 w.heap.size (.int .i64 1) (.int .i64 0) (.bool b) (.slice ao2 L.length L.length) (.string ⟨#[]⟩) (.slice none 0 0) (.slice none 0 0)) (fun k hk hq => set7_other (by omega) _ _ _ _ _ _ _) (fun k hk hq => by omega), set7_rs HA8.out hrb _ _ _ _ _ _ _⟩

set_option maxRecDepth 20000 in
set_option maxHeartbeats 4000000 in
theorem datum_2 {h : Nat} (_hD : DTOK h) (_hT : RTOKr h) (w0 w : World) (rb p dp : Nat) (l m : List Nat) (hr : RS w0 w rb l p) (h8 : By8 l) (_hl : l.length ≤ 100000000) (_hp : p ≤ 20000) (hd : dp + 1 ≤ 100) (_hh : dp ≤ h) (hn : rdNum l = some (2, m)) :
    Calls Try.prog 77 #[.pointer (some ⟨rb, 0, none⟩), .int .i64 ((dp + 1 : Nat) : Int)] w fun e w' => RQ w rb (okD w0 rb w.heap.size) (rdDat (h + 1) (dp + 1) l p) e w' := by
  obtain ⟨out, hout⟩ : ∃ o, o = rdDat (h + 1) (dp + 1) l p := ⟨_, rfl⟩
  rw [← hout]
  have hrb := hr.lt
  have hlm := rdNum_len hn
  have h8m := rdNum_by8 hn h8
  have hkl := rdNum_le hn
  have hdI : (0 : Int) < ((dp + 1 : Nat) : Int) := by omega
  have edp : ((dp + 1 : Nat) : Int) - 1 = (dp : Int) := by omega
  have HR0 := hide (hr.mono (up_alloc w (.cells #[.int .i64 0, .int .i64 0, .bool false, .slice none 0 0, .string ⟨#[]⟩, .slice none 0 0, .slice none 0 0] 64)))
  have HD4 : Hid (DBx (w.alloc (.cells #[.int .i64 0, .int .i64 0, .bool false, .slice none 0 0, .string ⟨#[]⟩, .slice none 0 0, .slice none 0 0] 64)) w.heap.size (.int .i64 0) (.int .i64 0) (.bool false) (.slice none 0 0) (.string ⟨#[]⟩) (.slice none 0 0) (.slice none 0 0)) := heap_alloc_new w _
  have HF0 : Hid (Fr (fun j => j = rb) w (w.alloc (.cells #[.int .i64 0, .int .i64 0, .bool false, .slice none 0 0, .string ⟨#[]⟩, .slice none 0 0, .slice none 0 0] 64))) := (Fr.refl _ w).alloc _
  have K0 := hide (rdnum_yes HR0.out h8 hn)
  have HMY := hide (fun (W : World) => must_yes W)
  have HMN := hide (fun (W : World) => must_no W)
  cases hx2 : rdSgn m with
  | none =>
    have hfld : rdFld (rdDat h dp) 2 m p = none := by simp [rdFld, hx2]
    have K2 := hide (fun (W : World) (h' : RS w0 W rb m p) => (rdsgn_any w0 W rb p m h' h8m).mono (fun _ _ q => q.no hx2))
    have HO : Hid (out = none) := hout.trans (dat_no1 hn hfld)
    clear hr h8 h8m hn hout _hD _hT hfld hx2
    go_enter Try.func77, Try.ntmps77
    go_wp2_with (first
      | (go_at_call 73; refine (K2.out _ HA1.out).mono ?_; rintro e2 w2 ⟨rfl, F2⟩; have HF2 := hide (HF1.out.trans F2 (fun _ _ e => e)); clear F2)
      | (go_at_call 60; refine K0.out.mono ?_; rintro e1 w1 ⟨rfl, hr1, F1⟩; have d4 := (HD4.out.frr F1 (by omega)).al (.cells #[.int .i64 2, .int .i64 0, .bool false, .slice none 0 0, .string ⟨#[]⟩, .slice none 0 0, .slice none 0 0] 64); have d5 : DBx (w1.alloc (.cells #[.int .i64 2, .int .i64 0, .bool false, .slice none 0 0, .string ⟨#[]⟩, .slice none 0 0, .slice none 0 0] 64)) w1.heap.size (.int .i64 2) (.int .i64 0) (.bool false) (.slice none 0 0) (.string ⟨#[]⟩) (.slice none 0 0) (.slice none 0 0) := heap_alloc_new w1 _; have HS1 : Hid (w.heap.size < w1.heap.size) := (HD4.out.frr F1 (by omega)).lt; have HA1 := hide (hr1.mono (up_alloc w1 (.cells #[.int .i64 2, .int .i64 0, .bool false, .slice none 0 0, .string ⟨#[]⟩, .slice none 0 0, .slice none 0 0] 64))); have HE1 := hide d5; have HG1 := hide d4; have HF1 := hide ((HF0.out.trans F1 (fun _ _ e => e)).alloc (.cells #[.int .i64 2, .int .i64 0, .bool false, .slice none 0 0, .string ⟨#[]⟩, .slice none 0 0, .slice none 0 0] 64)); have x10 := d5.k0; have x11 := d5.k1; have x12 := d5.k2; have x13 := d5.k3; have x14 := d5.k4; have x15 := d5.k5; have x16 := d5.k6; clear F1 hr1 d4 d5)
      | (go_at_call_of 46 (Value.bool true); refine (HMY.out _).mono ?_; rintro e9 w9 ⟨rfl, hw⟩; replace hw := hw.symm; subst hw))
    exact ⟨rfl, RQ.mkno HO.out HF2.out⟩
  | some y2 =>
    obtain ⟨n, ma⟩ := y2
    have hsf2 := rdSgn_suf hx2
    have h8ma := h8m.suf hsf2.2
    have hln2 := (hsf2.2).length_le
    have K2 := hide (fun (W : World) (h' : RS w0 W rb m p) => (rdsgn_any w0 W rb p m h' h8m).mono (fun _ _ q => q.yes hx2))
    have hfld : rdFld (rdDat h dp) 2 m p = some (((2 : Int), n, false, [], ⟨#[]⟩, [], []), ma, p) := by simp [rdFld, hx2] <;> rfl
    cases hfit : fit1 (h := h) ((2 : Int), n, false, [], ⟨#[]⟩, [], []) with
    | false =>
      have HO : Hid (out = none) := hout.trans (dat_no2 hn hfld hfit)
      have hN := sgn_rng hx2
      have HFIT := hide hfit
      clear hr h8 h8m hn hout _hD _hT hx2 hsf2 h8ma hln2 hfld hfit
      go_enter Try.func77, Try.ntmps77
      go_wp2_with (first
        | (go_at_call 53; have hq : DatQ (fun b => w1.heap.size < b) (w2.setCell ⟨w1.heap.size, 1, none⟩ (.int .i64 n)) (h + 1) ((2 : Int), n, false, [], ⟨#[]⟩, [], []) [.int .i64 2, .int .i64 n, .bool false, .slice none 0 0, .string ⟨#[]⟩, .slice none 0 0, .slice none 0 0] := ⟨_, _, _, rfl, hN, nilSl _, (fun i hi => by cases hi), nilRow _ _, nilRow _ _, .inl rfl, .inl rfl, .inl rfl⟩; have hfq := fitsQ hq; rw [HFIT.out] at hfq; refine hfq.mono ?_; clear hfq; rintro e8 w8 ⟨rfl, F8⟩; have d5 := HE2.out.fr F8; have d4 := HG2.out.fr F8; have HQ8 := hide (hq.keep (w' := w8) (fun k hk _ => F8.block k hk (fun e => e)) (fun _ _ hq => hq)); have HA8 := hide (HA2.out.mono F8.upw2); have HF8 := hide (HF2.out.trans F8 (fun _ _ e => e.elim)); have x80 := d5.k0; have x81 := d5.k1; have x82 := d5.k2; have x83 := d5.k3; have x84 := d5.k4; have x85 := d5.k5; have x86 := d5.k6; have fz80 := d4.fz 0; have ky80 := d4.k0; have S0 := d4.s0 (.int .i64 2); have fz81 := S0.fz 1; have ky81 := S0.k1; have S1 := S0.s1 (.int .i64 n); have fz82 := S1.fz 2; have ky82 := S1.k2; have S2 := S1.s2 (.bool false); have fz83 := S2.fz 3; have ky83 := S2.k3; have S3 := S2.s3 (.slice none 0 0); have fz84 := S3.fz 4; have ky84 := S3.k4; have S4 := S3.s4 (.string ⟨#[]⟩); have fz85 := S4.fz 5; have ky85 := S4.k5; have S5 := S4.s5 (.slice none 0 0); have fz86 := S5.fz 6; have ky86 := S5.k6; have S6 := S5.s6 (.slice none 0 0); have kr0 := S6.k0; have kr1 := S6.k1; have kr2 := S6.k2; have kr3 := S6.k3; have kr4 := S6.k4; have kr5 := S6.k5; have kr6 := S6.k6; clear F8 hq d5 d4 S0 S1 S2 S3 S4 S5 S6)
        | (go_at_call 73; refine (K2.out _ HA1.out).mono ?_; rintro e2 w2 ⟨⟨rfl, hr2⟩, F2⟩; have d5 := HE1.out.frr F2 (by have := HS1.out; omega); have d4 := HG1.out.frr F2 (by omega); have a5 := hr2; have fz20 := d5.fz 1; have ky20 := d5.k1; have e50 := d5.s1 (.int .i64 n); have d40 := (d4).oo (g := w1.heap.size) (i := 1) (x := .int .i64 n) (by have := HS1.out; omega); have a50 := (a5).setO (g := w1.heap.size) (i := 1) (u := .int .i64 n) (by have := HS1.out; omega); have HF2 : Hid (Fr (fun j => j = rb) w _) := ((HF1.out.trans F2 (fun _ _ e => e)).setCell (g := w1.heap.size) (fun e => by have := HS1.out; omega) 1 (.int .i64 n)); have HE2 := hide e50; have HG2 := hide d40; have HA2 := hide a50; have x20 := e50.k0; have x21 := e50.k1; have x22 := e50.k2; have x23 := e50.k3; have x24 := e50.k4; have x25 := e50.k5; have x26 := e50.k6; clear F2 hr2 d5 d4 a5 e50 d40 a50)
        | (go_at_call 60; refine K0.out.mono ?_; rintro e1 w1 ⟨rfl, hr1, F1⟩; have d4 := (HD4.out.frr F1 (by omega)).al (.cells #[.int .i64 2, .int .i64 0, .bool false, .slice none 0 0, .string ⟨#[]⟩, .slice none 0 0, .slice none 0 0] 64); have d5 : DBx (w1.alloc (.cells #[.int .i64 2, .int .i64 0, .bool false, .slice none 0 0, .string ⟨#[]⟩, .slice none 0 0, .slice none 0 0] 64)) w1.heap.size (.int .i64 2) (.int .i64 0) (.bool false) (.slice none 0 0) (.string ⟨#[]⟩) (.slice none 0 0) (.slice none 0 0) := heap_alloc_new w1 _; have HS1 : Hid (w.heap.size < w1.heap.size) := (HD4.out.frr F1 (by omega)).lt; have HA1 := hide (hr1.mono (up_alloc w1 (.cells #[.int .i64 2, .int .i64 0, .bool false, .slice none 0 0, .string ⟨#[]⟩, .slice none 0 0, .slice none 0 0] 64))); have HE1 := hide d5; have HG1 := hide d4; have HF1 := hide ((HF0.out.trans F1 (fun _ _ e => e)).alloc (.cells #[.int .i64 2, .int .i64 0, .bool false, .slice none 0 0, .string ⟨#[]⟩, .slice none 0 0, .slice none 0 0] 64)); have x10 := d5.k0; have x11 := d5.k1; have x12 := d5.k2; have x13 := d5.k3; have x14 := d5.k4; have x15 := d5.k5; have x16 := d5.k6; clear F1 hr1 d4 d5)
        | (go_at_call_of 46 (Value.bool true); refine (HMY.out _).mono ?_; rintro e9 w9 ⟨rfl, hw⟩; replace hw := hw.symm; subst hw)
        | (go_at_call_of 46 (Value.bool false); refine (HMN.out _).mono ?_; rintro e9 w9 ⟨rfl, hw⟩; replace hw := hw.symm; subst hw))
      exact ⟨rfl, RQ.mkno HO.out HF8.out⟩
    | true =>
      have HO : Hid (out = some (((2 : Int), n, false, [], ⟨#[]⟩, [], []), ma, p)) := hout.trans (dat_yes hn hfld hfit)
      have hN := sgn_rng hx2
      have HFIT := hide hfit
      clear hr h8 h8m hn hout _hD _hT hx2 hsf2 h8ma hln2 hfld hfit
      go_enter Try.func77, Try.ntmps77
      go_wp2_with (first
        | (go_at_call 53; have hq : DatQ (fun b => w1.heap.size < b) (w2.setCell ⟨w1.heap.size, 1, none⟩ (.int .i64 n)) (h + 1) ((2 : Int), n, false, [], ⟨#[]⟩, [], []) [.int .i64 2, .int .i64 n, .bool false, .slice none 0 0, .string ⟨#[]⟩, .slice none 0 0, .slice none 0 0] := ⟨_, _, _, rfl, hN, nilSl _, (fun i hi => by cases hi), nilRow _ _, nilRow _ _, .inl rfl, .inl rfl, .inl rfl⟩; have hfq := fitsQ hq; rw [HFIT.out] at hfq; refine hfq.mono ?_; clear hfq; rintro e8 w8 ⟨rfl, F8⟩; have d5 := HE2.out.fr F8; have d4 := HG2.out.fr F8; have HQ8 := hide (hq.keep (w' := w8) (fun k hk _ => F8.block k hk (fun e => e)) (fun _ _ hq => hq)); have HA8 := hide (HA2.out.mono F8.upw2); have HF8 := hide (HF2.out.trans F8 (fun _ _ e => e.elim)); have x80 := d5.k0; have x81 := d5.k1; have x82 := d5.k2; have x83 := d5.k3; have x84 := d5.k4; have x85 := d5.k5; have x86 := d5.k6; have fz80 := d4.fz 0; have ky80 := d4.k0; have S0 := d4.s0 (.int .i64 2); have fz81 := S0.fz 1; have ky81 := S0.k1; have S1 := S0.s1 (.int .i64 n); have fz82 := S1.fz 2; have ky82 := S1.k2; have S2 := S1.s2 (.bool false); have fz83 := S2.fz 3; have ky83 := S2.k3; have S3 := S2.s3 (.slice none 0 0); have fz84 := S3.fz 4; have ky84 := S3.k4; have S4 := S3.s4 (.string ⟨#[]⟩); have fz85 := S4.fz 5; have ky85 := S4.k5; have S5 := S4.s5 (.slice none 0 0); have fz86 := S5.fz 6; have ky86 := S5.k6; have S6 := S5.s6 (.slice none 0 0); have kr0 := S6.k0; have kr1 := S6.k1; have kr2 := S6.k2; have kr3 := S6.k3; have kr4 := S6.k4; have kr5 := S6.k5; have kr6 := S6.k6; clear F8 hq d5 d4 S0 S1 S2 S3 S4 S5 S6)
        | (go_at_call 73; refine (K2.out _ HA1.out).mono ?_; rintro e2 w2 ⟨⟨rfl, hr2⟩, F2⟩; have d5 := HE1.out.frr F2 (by have := HS1.out; omega); have d4 := HG1.out.frr F2 (by omega); have a5 := hr2; have fz20 := d5.fz 1; have ky20 := d5.k1; have e50 := d5.s1 (.int .i64 n); have d40 := (d4).oo (g := w1.heap.size) (i := 1) (x := .int .i64 n) (by have := HS1.out; omega); have a50 := (a5).setO (g := w1.heap.size) (i := 1) (u := .int .i64 n) (by have := HS1.out; omega); have HF2 : Hid (Fr (fun j => j = rb) w _) := ((HF1.out.trans F2 (fun _ _ e => e)).setCell (g := w1.heap.size) (fun e => by have := HS1.out; omega) 1 (.int .i64 n)); have HE2 := hide e50; have HG2 := hide d40; have HA2 := hide a50; have x20 := e50.k0; have x21 := e50.k1; have x22 := e50.k2; have x23 := e50.k3; have x24 := e50.k4; have x25 := e50.k5; have x26 := e50.k6; clear F2 hr2 d5 d4 a5 e50 d40 a50)
        | (go_at_call 60; refine K0.out.mono ?_; rintro e1 w1 ⟨rfl, hr1, F1⟩; have d4 := (HD4.out.frr F1 (by omega)).al (.cells #[.int .i64 2, .int .i64 0, .bool false, .slice none 0 0, .string ⟨#[]⟩, .slice none 0 0, .slice none 0 0] 64); have d5 : DBx (w1.alloc (.cells #[.int .i64 2, .int .i64 0, .bool false, .slice none 0 0, .string ⟨#[]⟩, .slice none 0 0, .slice none 0 0] 64)) w1.heap.size (.int .i64 2) (.int .i64 0) (.bool false) (.slice none 0 0) (.string ⟨#[]⟩) (.slice none 0 0) (.slice none 0 0) := heap_alloc_new w1 _; have HS1 : Hid (w.heap.size < w1.heap.size) := (HD4.out.frr F1 (by omega)).lt; have HA1 := hide (hr1.mono (up_alloc w1 (.cells #[.int .i64 2, .int .i64 0, .bool false, .slice none 0 0, .string ⟨#[]⟩, .slice none 0 0, .slice none 0 0] 64))); have HE1 := hide d5; have HG1 := hide d4; have HF1 := hide ((HF0.out.trans F1 (fun _ _ e => e)).alloc (.cells #[.int .i64 2, .int .i64 0, .bool false, .slice none 0 0, .string ⟨#[]⟩, .slice none 0 0, .slice none 0 0] 64)); have x10 := d5.k0; have x11 := d5.k1; have x12 := d5.k2; have x13 := d5.k3; have x14 := d5.k4; have x15 := d5.k5; have x16 := d5.k6; clear F1 hr1 d4 d5)
        | (go_at_call_of 46 (Value.bool true); refine (HMY.out _).mono ?_; rintro e9 w9 ⟨rfl, hw⟩; replace hw := hw.symm; subst hw))
      refine bodyPost_ret (by simp [results, Try.results77, go_sem, kr0, kr1, kr2, kr3, kr4, kr5, kr6]; rfl) rfl ?_
      have hs1 := HS1.out
      exact RQ.mk' HO.out (set7_fr HF8.out (Nat.le_refl _) _ _ _ _ _ _ _) ⟨_, _, _, _, _, _, _, _, _, _, _, _, _, rfl, HQ8.out.keep (w' := set7 w8 w.heap.size (.int .i64 2) (.int .i64 n) (.bool false) (.slice none 0 0) (.string ⟨#[]⟩) (.slice none 0 0) (.slice none 0 0)) (fun k hk hq => set7_other (by omega) _ _ _ _ _ _ _) (fun k hk hq => by omega), set7_rs HA8.out hrb _ _ _ _ _ _ _⟩

set_option maxRecDepth 20000 in
set_option maxHeartbeats 4000000 in
theorem datum_3 {h : Nat} (_hD : DTOK h) (_hT : RTOKr h) (w0 w : World) (rb p dp : Nat) (l m : List Nat) (hr : RS w0 w rb l p) (h8 : By8 l) (_hl : l.length ≤ 100000000) (_hp : p ≤ 20000) (hd : dp + 1 ≤ 100) (_hh : dp ≤ h) (hn : rdNum l = some (3, m)) :
    Calls Try.prog 77 #[.pointer (some ⟨rb, 0, none⟩), .int .i64 ((dp + 1 : Nat) : Int)] w fun e w' => RQ w rb (okD w0 rb w.heap.size) (rdDat (h + 1) (dp + 1) l p) e w' := by
  obtain ⟨out, hout⟩ : ∃ o, o = rdDat (h + 1) (dp + 1) l p := ⟨_, rfl⟩
  rw [← hout]
  have hrb := hr.lt
  have hlm := rdNum_len hn
  have h8m := rdNum_by8 hn h8
  have hkl := rdNum_le hn
  have hdI : (0 : Int) < ((dp + 1 : Nat) : Int) := by omega
  have edp : ((dp + 1 : Nat) : Int) - 1 = (dp : Int) := by omega
  have HR0 := hide (hr.mono (up_alloc w (.cells #[.int .i64 0, .int .i64 0, .bool false, .slice none 0 0, .string ⟨#[]⟩, .slice none 0 0, .slice none 0 0] 64)))
  have HD4 : Hid (DBx (w.alloc (.cells #[.int .i64 0, .int .i64 0, .bool false, .slice none 0 0, .string ⟨#[]⟩, .slice none 0 0, .slice none 0 0] 64)) w.heap.size (.int .i64 0) (.int .i64 0) (.bool false) (.slice none 0 0) (.string ⟨#[]⟩) (.slice none 0 0) (.slice none 0 0)) := heap_alloc_new w _
  have HF0 : Hid (Fr (fun j => j = rb) w (w.alloc (.cells #[.int .i64 0, .int .i64 0, .bool false, .slice none 0 0, .string ⟨#[]⟩, .slice none 0 0, .slice none 0 0] 64))) := (Fr.refl _ w).alloc _
  have K0 := hide (rdnum_yes HR0.out h8 hn)
  have HMY := hide (fun (W : World) => must_yes W)
  have HMN := hide (fun (W : World) => must_no W)
  cases hx2 : rdSgn m with
  | none =>
    have hfld : rdFld (rdDat h dp) 3 m p = none := by simp [rdFld, hx2]
    have K2 := hide (fun (W : World) (h' : RS w0 W rb m p) => (rdsgn_any w0 W rb p m h' h8m).mono (fun _ _ q => q.no hx2))
    have HO : Hid (out = none) := hout.trans (dat_no1 hn hfld)
    clear hr h8 h8m hn hout _hD _hT hfld hx2
    go_enter Try.func77, Try.ntmps77
    go_wp2_with (first
      | (go_at_call 73; refine (K2.out _ HA1.out).mono ?_; rintro e2 w2 ⟨rfl, F2⟩; have HF2 := hide (HF1.out.trans F2 (fun _ _ e => e)); clear F2)
      | (go_at_call 60; refine K0.out.mono ?_; rintro e1 w1 ⟨rfl, hr1, F1⟩; have d4 := (HD4.out.frr F1 (by omega)).al (.cells #[.int .i64 3, .int .i64 0, .bool false, .slice none 0 0, .string ⟨#[]⟩, .slice none 0 0, .slice none 0 0] 64); have d5 : DBx (w1.alloc (.cells #[.int .i64 3, .int .i64 0, .bool false, .slice none 0 0, .string ⟨#[]⟩, .slice none 0 0, .slice none 0 0] 64)) w1.heap.size (.int .i64 3) (.int .i64 0) (.bool false) (.slice none 0 0) (.string ⟨#[]⟩) (.slice none 0 0) (.slice none 0 0) := heap_alloc_new w1 _; have HS1 : Hid (w.heap.size < w1.heap.size) := (HD4.out.frr F1 (by omega)).lt; have HA1 := hide (hr1.mono (up_alloc w1 (.cells #[.int .i64 3, .int .i64 0, .bool false, .slice none 0 0, .string ⟨#[]⟩, .slice none 0 0, .slice none 0 0] 64))); have HE1 := hide d5; have HG1 := hide d4; have HF1 := hide ((HF0.out.trans F1 (fun _ _ e => e)).alloc (.cells #[.int .i64 3, .int .i64 0, .bool false, .slice none 0 0, .string ⟨#[]⟩, .slice none 0 0, .slice none 0 0] 64)); have x10 := d5.k0; have x11 := d5.k1; have x12 := d5.k2; have x13 := d5.k3; have x14 := d5.k4; have x15 := d5.k5; have x16 := d5.k6; clear F1 hr1 d4 d5)
      | (go_at_call_of 46 (Value.bool true); refine (HMY.out _).mono ?_; rintro e9 w9 ⟨rfl, hw⟩; replace hw := hw.symm; subst hw))
    exact ⟨rfl, RQ.mkno HO.out HF2.out⟩
  | some y2 =>
    obtain ⟨n, ma⟩ := y2
    have hsf2 := rdSgn_suf hx2
    have h8ma := h8m.suf hsf2.2
    have hln2 := (hsf2.2).length_le
    have K2 := hide (fun (W : World) (h' : RS w0 W rb m p) => (rdsgn_any w0 W rb p m h' h8m).mono (fun _ _ q => q.yes hx2))
    have hfld : rdFld (rdDat h dp) 3 m p = some (((3 : Int), n, false, [], ⟨#[]⟩, [], []), ma, p) := by simp [rdFld, hx2] <;> rfl
    cases hfit : fit1 (h := h) ((3 : Int), n, false, [], ⟨#[]⟩, [], []) with
    | false =>
      have HO : Hid (out = none) := hout.trans (dat_no2 hn hfld hfit)
      have hN := sgn_rng hx2
      have HFIT := hide hfit
      clear hr h8 h8m hn hout _hD _hT hx2 hsf2 h8ma hln2 hfld hfit
      go_enter Try.func77, Try.ntmps77
      go_wp2_with (first
        | (go_at_call 53; have hq : DatQ (fun b => w1.heap.size < b) (w2.setCell ⟨w1.heap.size, 1, none⟩ (.int .i64 n)) (h + 1) ((3 : Int), n, false, [], ⟨#[]⟩, [], []) [.int .i64 3, .int .i64 n, .bool false, .slice none 0 0, .string ⟨#[]⟩, .slice none 0 0, .slice none 0 0] := ⟨_, _, _, rfl, hN, nilSl _, (fun i hi => by cases hi), nilRow _ _, nilRow _ _, .inl rfl, .inl rfl, .inl rfl⟩; have hfq := fitsQ hq; rw [HFIT.out] at hfq; refine hfq.mono ?_; clear hfq; rintro e8 w8 ⟨rfl, F8⟩; have d5 := HE2.out.fr F8; have d4 := HG2.out.fr F8; have HQ8 := hide (hq.keep (w' := w8) (fun k hk _ => F8.block k hk (fun e => e)) (fun _ _ hq => hq)); have HA8 := hide (HA2.out.mono F8.upw2); have HF8 := hide (HF2.out.trans F8 (fun _ _ e => e.elim)); have x80 := d5.k0; have x81 := d5.k1; have x82 := d5.k2; have x83 := d5.k3; have x84 := d5.k4; have x85 := d5.k5; have x86 := d5.k6; have fz80 := d4.fz 0; have ky80 := d4.k0; have S0 := d4.s0 (.int .i64 3); have fz81 := S0.fz 1; have ky81 := S0.k1; have S1 := S0.s1 (.int .i64 n); have fz82 := S1.fz 2; have ky82 := S1.k2; have S2 := S1.s2 (.bool false); have fz83 := S2.fz 3; have ky83 := S2.k3; have S3 := S2.s3 (.slice none 0 0); have fz84 := S3.fz 4; have ky84 := S3.k4; have S4 := S3.s4 (.string ⟨#[]⟩); have fz85 := S4.fz 5; have ky85 := S4.k5; have S5 := S4.s5 (.slice none 0 0); have fz86 := S5.fz 6; have ky86 := S5.k6; have S6 := S5.s6 (.slice none 0 0); have kr0 := S6.k0; have kr1 := S6.k1; have kr2 := S6.k2; have kr3 := S6.k3; have kr4 := S6.k4; have kr5 := S6.k5; have kr6 := S6.k6; clear F8 hq d5 d4 S0 S1 S2 S3 S4 S5 S6)
        | (go_at_call 73; refine (K2.out _ HA1.out).mono ?_; rintro e2 w2 ⟨⟨rfl, hr2⟩, F2⟩; have d5 := HE1.out.frr F2 (by have := HS1.out; omega); have d4 := HG1.out.frr F2 (by omega); have a5 := hr2; have fz20 := d5.fz 1; have ky20 := d5.k1; have e50 := d5.s1 (.int .i64 n); have d40 := (d4).oo (g := w1.heap.size) (i := 1) (x := .int .i64 n) (by have := HS1.out; omega); have a50 := (a5).setO (g := w1.heap.size) (i := 1) (u := .int .i64 n) (by have := HS1.out; omega); have HF2 : Hid (Fr (fun j => j = rb) w _) := ((HF1.out.trans F2 (fun _ _ e => e)).setCell (g := w1.heap.size) (fun e => by have := HS1.out; omega) 1 (.int .i64 n)); have HE2 := hide e50; have HG2 := hide d40; have HA2 := hide a50; have x20 := e50.k0; have x21 := e50.k1; have x22 := e50.k2; have x23 := e50.k3; have x24 := e50.k4; have x25 := e50.k5; have x26 := e50.k6; clear F2 hr2 d5 d4 a5 e50 d40 a50)
        | (go_at_call 60; refine K0.out.mono ?_; rintro e1 w1 ⟨rfl, hr1, F1⟩; have d4 := (HD4.out.frr F1 (by omega)).al (.cells #[.int .i64 3, .int .i64 0, .bool false, .slice none 0 0, .string ⟨#[]⟩, .slice none 0 0, .slice none 0 0] 64); have d5 : DBx (w1.alloc (.cells #[.int .i64 3, .int .i64 0, .bool false, .slice none 0 0, .string ⟨#[]⟩, .slice none 0 0, .slice none 0 0] 64)) w1.heap.size (.int .i64 3) (.int .i64 0) (.bool false) (.slice none 0 0) (.string ⟨#[]⟩) (.slice none 0 0) (.slice none 0 0) := heap_alloc_new w1 _; have HS1 : Hid (w.heap.size < w1.heap.size) := (HD4.out.frr F1 (by omega)).lt; have HA1 := hide (hr1.mono (up_alloc w1 (.cells #[.int .i64 3, .int .i64 0, .bool false, .slice none 0 0, .string ⟨#[]⟩, .slice none 0 0, .slice none 0 0] 64))); have HE1 := hide d5; have HG1 := hide d4; have HF1 := hide ((HF0.out.trans F1 (fun _ _ e => e)).alloc (.cells #[.int .i64 3, .int .i64 0, .bool false, .slice none 0 0, .string ⟨#[]⟩, .slice none 0 0, .slice none 0 0] 64)); have x10 := d5.k0; have x11 := d5.k1; have x12 := d5.k2; have x13 := d5.k3; have x14 := d5.k4; have x15 := d5.k5; have x16 := d5.k6; clear F1 hr1 d4 d5)
        | (go_at_call_of 46 (Value.bool true); refine (HMY.out _).mono ?_; rintro e9 w9 ⟨rfl, hw⟩; replace hw := hw.symm; subst hw)
        | (go_at_call_of 46 (Value.bool false); refine (HMN.out _).mono ?_; rintro e9 w9 ⟨rfl, hw⟩; replace hw := hw.symm; subst hw))
      exact ⟨rfl, RQ.mkno HO.out HF8.out⟩
    | true =>
      have HO : Hid (out = some (((3 : Int), n, false, [], ⟨#[]⟩, [], []), ma, p)) := hout.trans (dat_yes hn hfld hfit)
      have hN := sgn_rng hx2
      have HFIT := hide hfit
      clear hr h8 h8m hn hout _hD _hT hx2 hsf2 h8ma hln2 hfld hfit
      go_enter Try.func77, Try.ntmps77
      go_wp2_with (first
        | (go_at_call 53; have hq : DatQ (fun b => w1.heap.size < b) (w2.setCell ⟨w1.heap.size, 1, none⟩ (.int .i64 n)) (h + 1) ((3 : Int), n, false, [], ⟨#[]⟩, [], []) [.int .i64 3, .int .i64 n, .bool false, .slice none 0 0, .string ⟨#[]⟩, .slice none 0 0, .slice none 0 0] := ⟨_, _, _, rfl, hN, nilSl _, (fun i hi => by cases hi), nilRow _ _, nilRow _ _, .inl rfl, .inl rfl, .inl rfl⟩; have hfq := fitsQ hq; rw [HFIT.out] at hfq; refine hfq.mono ?_; clear hfq; rintro e8 w8 ⟨rfl, F8⟩; have d5 := HE2.out.fr F8; have d4 := HG2.out.fr F8; have HQ8 := hide (hq.keep (w' := w8) (fun k hk _ => F8.block k hk (fun e => e)) (fun _ _ hq => hq)); have HA8 := hide (HA2.out.mono F8.upw2); have HF8 := hide (HF2.out.trans F8 (fun _ _ e => e.elim)); have x80 := d5.k0; have x81 := d5.k1; have x82 := d5.k2; have x83 := d5.k3; have x84 := d5.k4; have x85 := d5.k5; have x86 := d5.k6; have fz80 := d4.fz 0; have ky80 := d4.k0; have S0 := d4.s0 (.int .i64 3); have fz81 := S0.fz 1; have ky81 := S0.k1; have S1 := S0.s1 (.int .i64 n); have fz82 := S1.fz 2; have ky82 := S1.k2; have S2 := S1.s2 (.bool false); have fz83 := S2.fz 3; have ky83 := S2.k3; have S3 := S2.s3 (.slice none 0 0); have fz84 := S3.fz 4; have ky84 := S3.k4; have S4 := S3.s4 (.string ⟨#[]⟩); have fz85 := S4.fz 5; have ky85 := S4.k5; have S5 := S4.s5 (.slice none 0 0); have fz86 := S5.fz 6; have ky86 := S5.k6; have S6 := S5.s6 (.slice none 0 0); have kr0 := S6.k0; have kr1 := S6.k1; have kr2 := S6.k2; have kr3 := S6.k3; have kr4 := S6.k4; have kr5 := S6.k5; have kr6 := S6.k6; clear F8 hq d5 d4 S0 S1 S2 S3 S4 S5 S6)
        | (go_at_call 73; refine (K2.out _ HA1.out).mono ?_; rintro e2 w2 ⟨⟨rfl, hr2⟩, F2⟩; have d5 := HE1.out.frr F2 (by have := HS1.out; omega); have d4 := HG1.out.frr F2 (by omega); have a5 := hr2; have fz20 := d5.fz 1; have ky20 := d5.k1; have e50 := d5.s1 (.int .i64 n); have d40 := (d4).oo (g := w1.heap.size) (i := 1) (x := .int .i64 n) (by have := HS1.out; omega); have a50 := (a5).setO (g := w1.heap.size) (i := 1) (u := .int .i64 n) (by have := HS1.out; omega); have HF2 : Hid (Fr (fun j => j = rb) w _) := ((HF1.out.trans F2 (fun _ _ e => e)).setCell (g := w1.heap.size) (fun e => by have := HS1.out; omega) 1 (.int .i64 n)); have HE2 := hide e50; have HG2 := hide d40; have HA2 := hide a50; have x20 := e50.k0; have x21 := e50.k1; have x22 := e50.k2; have x23 := e50.k3; have x24 := e50.k4; have x25 := e50.k5; have x26 := e50.k6; clear F2 hr2 d5 d4 a5 e50 d40 a50)
        | (go_at_call 60; refine K0.out.mono ?_; rintro e1 w1 ⟨rfl, hr1, F1⟩; have d4 := (HD4.out.frr F1 (by omega)).al (.cells #[.int .i64 3, .int .i64 0, .bool false, .slice none 0 0, .string ⟨#[]⟩, .slice none 0 0, .slice none 0 0] 64); have d5 : DBx (w1.alloc (.cells #[.int .i64 3, .int .i64 0, .bool false, .slice none 0 0, .string ⟨#[]⟩, .slice none 0 0, .slice none 0 0] 64)) w1.heap.size (.int .i64 3) (.int .i64 0) (.bool false) (.slice none 0 0) (.string ⟨#[]⟩) (.slice none 0 0) (.slice none 0 0) := heap_alloc_new w1 _; have HS1 : Hid (w.heap.size < w1.heap.size) := (HD4.out.frr F1 (by omega)).lt; have HA1 := hide (hr1.mono (up_alloc w1 (.cells #[.int .i64 3, .int .i64 0, .bool false, .slice none 0 0, .string ⟨#[]⟩, .slice none 0 0, .slice none 0 0] 64))); have HE1 := hide d5; have HG1 := hide d4; have HF1 := hide ((HF0.out.trans F1 (fun _ _ e => e)).alloc (.cells #[.int .i64 3, .int .i64 0, .bool false, .slice none 0 0, .string ⟨#[]⟩, .slice none 0 0, .slice none 0 0] 64)); have x10 := d5.k0; have x11 := d5.k1; have x12 := d5.k2; have x13 := d5.k3; have x14 := d5.k4; have x15 := d5.k5; have x16 := d5.k6; clear F1 hr1 d4 d5)
        | (go_at_call_of 46 (Value.bool true); refine (HMY.out _).mono ?_; rintro e9 w9 ⟨rfl, hw⟩; replace hw := hw.symm; subst hw))
      refine bodyPost_ret (by simp [results, Try.results77, go_sem, kr0, kr1, kr2, kr3, kr4, kr5, kr6]; rfl) rfl ?_
      have hs1 := HS1.out
      exact RQ.mk' HO.out (set7_fr HF8.out (Nat.le_refl _) _ _ _ _ _ _ _) ⟨_, _, _, _, _, _, _, _, _, _, _, _, _, rfl, HQ8.out.keep (w' := set7 w8 w.heap.size (.int .i64 3) (.int .i64 n) (.bool false) (.slice none 0 0) (.string ⟨#[]⟩) (.slice none 0 0) (.slice none 0 0)) (fun k hk hq => set7_other (by omega) _ _ _ _ _ _ _) (fun k hk hq => by omega), set7_rs HA8.out hrb _ _ _ _ _ _ _⟩

set_option maxRecDepth 20000 in
set_option maxHeartbeats 4000000 in
theorem datum_9 {h : Nat} (_hD : DTOK h) (_hT : RTOKr h) (w0 w : World) (rb p dp : Nat) (l m : List Nat) (hr : RS w0 w rb l p) (h8 : By8 l) (_hl : l.length ≤ 100000000) (_hp : p ≤ 20000) (hd : dp + 1 ≤ 100) (_hh : dp ≤ h) (hn : rdNum l = some (9, m)) :
    Calls Try.prog 77 #[.pointer (some ⟨rb, 0, none⟩), .int .i64 ((dp + 1 : Nat) : Int)] w fun e w' => RQ w rb (okD w0 rb w.heap.size) (rdDat (h + 1) (dp + 1) l p) e w' := by
  obtain ⟨out, hout⟩ : ∃ o, o = rdDat (h + 1) (dp + 1) l p := ⟨_, rfl⟩
  rw [← hout]
  have hrb := hr.lt
  have hlm := rdNum_len hn
  have h8m := rdNum_by8 hn h8
  have hkl := rdNum_le hn
  have hdI : (0 : Int) < ((dp + 1 : Nat) : Int) := by omega
  have edp : ((dp + 1 : Nat) : Int) - 1 = (dp : Int) := by omega
  have HR0 := hide (hr.mono (up_alloc w (.cells #[.int .i64 0, .int .i64 0, .bool false, .slice none 0 0, .string ⟨#[]⟩, .slice none 0 0, .slice none 0 0] 64)))
  have HD4 : Hid (DBx (w.alloc (.cells #[.int .i64 0, .int .i64 0, .bool false, .slice none 0 0, .string ⟨#[]⟩, .slice none 0 0, .slice none 0 0] 64)) w.heap.size (.int .i64 0) (.int .i64 0) (.bool false) (.slice none 0 0) (.string ⟨#[]⟩) (.slice none 0 0) (.slice none 0 0)) := heap_alloc_new w _
  have HF0 : Hid (Fr (fun j => j = rb) w (w.alloc (.cells #[.int .i64 0, .int .i64 0, .bool false, .slice none 0 0, .string ⟨#[]⟩, .slice none 0 0, .slice none 0 0] 64))) := (Fr.refl _ w).alloc _
  have K0 := hide (rdnum_yes HR0.out h8 hn)
  have HMY := hide (fun (W : World) => must_yes W)
  have HMN := hide (fun (W : World) => must_no W)
  cases hx2 : rdSgn m with
  | none =>
    have hfld : rdFld (rdDat h dp) 9 m p = none := by simp [rdFld, hx2]
    have K2 := hide (fun (W : World) (h' : RS w0 W rb m p) => (rdsgn_any w0 W rb p m h' h8m).mono (fun _ _ q => q.no hx2))
    have HO : Hid (out = none) := hout.trans (dat_no1 hn hfld)
    clear hr h8 h8m hn hout _hD _hT hfld hx2
    go_enter Try.func77, Try.ntmps77
    go_wp2_with (first
      | (go_at_call 73; refine (K2.out _ HA1.out).mono ?_; rintro e2 w2 ⟨rfl, F2⟩; have HF2 := hide (HF1.out.trans F2 (fun _ _ e => e)); clear F2)
      | (go_at_call 60; refine K0.out.mono ?_; rintro e1 w1 ⟨rfl, hr1, F1⟩; have d4 := (HD4.out.frr F1 (by omega)).al (.cells #[.int .i64 9, .int .i64 0, .bool false, .slice none 0 0, .string ⟨#[]⟩, .slice none 0 0, .slice none 0 0] 64); have d5 : DBx (w1.alloc (.cells #[.int .i64 9, .int .i64 0, .bool false, .slice none 0 0, .string ⟨#[]⟩, .slice none 0 0, .slice none 0 0] 64)) w1.heap.size (.int .i64 9) (.int .i64 0) (.bool false) (.slice none 0 0) (.string ⟨#[]⟩) (.slice none 0 0) (.slice none 0 0) := heap_alloc_new w1 _; have HS1 : Hid (w.heap.size < w1.heap.size) := (HD4.out.frr F1 (by omega)).lt; have HA1 := hide (hr1.mono (up_alloc w1 (.cells #[.int .i64 9, .int .i64 0, .bool false, .slice none 0 0, .string ⟨#[]⟩, .slice none 0 0, .slice none 0 0] 64))); have HE1 := hide d5; have HG1 := hide d4; have HF1 := hide ((HF0.out.trans F1 (fun _ _ e => e)).alloc (.cells #[.int .i64 9, .int .i64 0, .bool false, .slice none 0 0, .string ⟨#[]⟩, .slice none 0 0, .slice none 0 0] 64)); have x10 := d5.k0; have x11 := d5.k1; have x12 := d5.k2; have x13 := d5.k3; have x14 := d5.k4; have x15 := d5.k5; have x16 := d5.k6; clear F1 hr1 d4 d5)
      | (go_at_call_of 46 (Value.bool true); refine (HMY.out _).mono ?_; rintro e9 w9 ⟨rfl, hw⟩; replace hw := hw.symm; subst hw))
    exact ⟨rfl, RQ.mkno HO.out HF2.out⟩
  | some y2 =>
    obtain ⟨n, ma⟩ := y2
    have hsf2 := rdSgn_suf hx2
    have h8ma := h8m.suf hsf2.2
    have hln2 := (hsf2.2).length_le
    have K2 := hide (fun (W : World) (h' : RS w0 W rb m p) => (rdsgn_any w0 W rb p m h' h8m).mono (fun _ _ q => q.yes hx2))
    have hfld : rdFld (rdDat h dp) 9 m p = some (((9 : Int), n, false, [], ⟨#[]⟩, [], []), ma, p) := by simp [rdFld, hx2] <;> rfl
    cases hfit : fit1 (h := h) ((9 : Int), n, false, [], ⟨#[]⟩, [], []) with
    | false =>
      have HO : Hid (out = none) := hout.trans (dat_no2 hn hfld hfit)
      have hN := sgn_rng hx2
      have HFIT := hide hfit
      clear hr h8 h8m hn hout _hD _hT hx2 hsf2 h8ma hln2 hfld hfit
      go_enter Try.func77, Try.ntmps77
      go_wp2_with (first
        | (go_at_call 53; have hq : DatQ (fun b => w1.heap.size < b) (w2.setCell ⟨w1.heap.size, 1, none⟩ (.int .i64 n)) (h + 1) ((9 : Int), n, false, [], ⟨#[]⟩, [], []) [.int .i64 9, .int .i64 n, .bool false, .slice none 0 0, .string ⟨#[]⟩, .slice none 0 0, .slice none 0 0] := ⟨_, _, _, rfl, hN, nilSl _, (fun i hi => by cases hi), nilRow _ _, nilRow _ _, .inl rfl, .inl rfl, .inl rfl⟩; have hfq := fitsQ hq; rw [HFIT.out] at hfq; refine hfq.mono ?_; clear hfq; rintro e8 w8 ⟨rfl, F8⟩; have d5 := HE2.out.fr F8; have d4 := HG2.out.fr F8; have HQ8 := hide (hq.keep (w' := w8) (fun k hk _ => F8.block k hk (fun e => e)) (fun _ _ hq => hq)); have HA8 := hide (HA2.out.mono F8.upw2); have HF8 := hide (HF2.out.trans F8 (fun _ _ e => e.elim)); have x80 := d5.k0; have x81 := d5.k1; have x82 := d5.k2; have x83 := d5.k3; have x84 := d5.k4; have x85 := d5.k5; have x86 := d5.k6; have fz80 := d4.fz 0; have ky80 := d4.k0; have S0 := d4.s0 (.int .i64 9); have fz81 := S0.fz 1; have ky81 := S0.k1; have S1 := S0.s1 (.int .i64 n); have fz82 := S1.fz 2; have ky82 := S1.k2; have S2 := S1.s2 (.bool false); have fz83 := S2.fz 3; have ky83 := S2.k3; have S3 := S2.s3 (.slice none 0 0); have fz84 := S3.fz 4; have ky84 := S3.k4; have S4 := S3.s4 (.string ⟨#[]⟩); have fz85 := S4.fz 5; have ky85 := S4.k5; have S5 := S4.s5 (.slice none 0 0); have fz86 := S5.fz 6; have ky86 := S5.k6; have S6 := S5.s6 (.slice none 0 0); have kr0 := S6.k0; have kr1 := S6.k1; have kr2 := S6.k2; have kr3 := S6.k3; have kr4 := S6.k4; have kr5 := S6.k5; have kr6 := S6.k6; clear F8 hq d5 d4 S0 S1 S2 S3 S4 S5 S6)
        | (go_at_call 73; refine (K2.out _ HA1.out).mono ?_; rintro e2 w2 ⟨⟨rfl, hr2⟩, F2⟩; have d5 := HE1.out.frr F2 (by have := HS1.out; omega); have d4 := HG1.out.frr F2 (by omega); have a5 := hr2; have fz20 := d5.fz 1; have ky20 := d5.k1; have e50 := d5.s1 (.int .i64 n); have d40 := (d4).oo (g := w1.heap.size) (i := 1) (x := .int .i64 n) (by have := HS1.out; omega); have a50 := (a5).setO (g := w1.heap.size) (i := 1) (u := .int .i64 n) (by have := HS1.out; omega); have HF2 : Hid (Fr (fun j => j = rb) w _) := ((HF1.out.trans F2 (fun _ _ e => e)).setCell (g := w1.heap.size) (fun e => by have := HS1.out; omega) 1 (.int .i64 n)); have HE2 := hide e50; have HG2 := hide d40; have HA2 := hide a50; have x20 := e50.k0; have x21 := e50.k1; have x22 := e50.k2; have x23 := e50.k3; have x24 := e50.k4; have x25 := e50.k5; have x26 := e50.k6; clear F2 hr2 d5 d4 a5 e50 d40 a50)
        | (go_at_call 60; refine K0.out.mono ?_; rintro e1 w1 ⟨rfl, hr1, F1⟩; have d4 := (HD4.out.frr F1 (by omega)).al (.cells #[.int .i64 9, .int .i64 0, .bool false, .slice none 0 0, .string ⟨#[]⟩, .slice none 0 0, .slice none 0 0] 64); have d5 : DBx (w1.alloc (.cells #[.int .i64 9, .int .i64 0, .bool false, .slice none 0 0, .string ⟨#[]⟩, .slice none 0 0, .slice none 0 0] 64)) w1.heap.size (.int .i64 9) (.int .i64 0) (.bool false) (.slice none 0 0) (.string ⟨#[]⟩) (.slice none 0 0) (.slice none 0 0) := heap_alloc_new w1 _; have HS1 : Hid (w.heap.size < w1.heap.size) := (HD4.out.frr F1 (by omega)).lt; have HA1 := hide (hr1.mono (up_alloc w1 (.cells #[.int .i64 9, .int .i64 0, .bool false, .slice none 0 0, .string ⟨#[]⟩, .slice none 0 0, .slice none 0 0] 64))); have HE1 := hide d5; have HG1 := hide d4; have HF1 := hide ((HF0.out.trans F1 (fun _ _ e => e)).alloc (.cells #[.int .i64 9, .int .i64 0, .bool false, .slice none 0 0, .string ⟨#[]⟩, .slice none 0 0, .slice none 0 0] 64)); have x10 := d5.k0; have x11 := d5.k1; have x12 := d5.k2; have x13 := d5.k3; have x14 := d5.k4; have x15 := d5.k5; have x16 := d5.k6; clear F1 hr1 d4 d5)
        | (go_at_call_of 46 (Value.bool true); refine (HMY.out _).mono ?_; rintro e9 w9 ⟨rfl, hw⟩; replace hw := hw.symm; subst hw)
        | (go_at_call_of 46 (Value.bool false); refine (HMN.out _).mono ?_; rintro e9 w9 ⟨rfl, hw⟩; replace hw := hw.symm; subst hw))
      exact ⟨rfl, RQ.mkno HO.out HF8.out⟩
    | true =>
      have HO : Hid (out = some (((9 : Int), n, false, [], ⟨#[]⟩, [], []), ma, p)) := hout.trans (dat_yes hn hfld hfit)
      have hN := sgn_rng hx2
      have HFIT := hide hfit
      clear hr h8 h8m hn hout _hD _hT hx2 hsf2 h8ma hln2 hfld hfit
      go_enter Try.func77, Try.ntmps77
      go_wp2_with (first
        | (go_at_call 53; have hq : DatQ (fun b => w1.heap.size < b) (w2.setCell ⟨w1.heap.size, 1, none⟩ (.int .i64 n)) (h + 1) ((9 : Int), n, false, [], ⟨#[]⟩, [], []) [.int .i64 9, .int .i64 n, .bool false, .slice none 0 0, .string ⟨#[]⟩, .slice none 0 0, .slice none 0 0] := ⟨_, _, _, rfl, hN, nilSl _, (fun i hi => by cases hi), nilRow _ _, nilRow _ _, .inl rfl, .inl rfl, .inl rfl⟩; have hfq := fitsQ hq; rw [HFIT.out] at hfq; refine hfq.mono ?_; clear hfq; rintro e8 w8 ⟨rfl, F8⟩; have d5 := HE2.out.fr F8; have d4 := HG2.out.fr F8; have HQ8 := hide (hq.keep (w' := w8) (fun k hk _ => F8.block k hk (fun e => e)) (fun _ _ hq => hq)); have HA8 := hide (HA2.out.mono F8.upw2); have HF8 := hide (HF2.out.trans F8 (fun _ _ e => e.elim)); have x80 := d5.k0; have x81 := d5.k1; have x82 := d5.k2; have x83 := d5.k3; have x84 := d5.k4; have x85 := d5.k5; have x86 := d5.k6; have fz80 := d4.fz 0; have ky80 := d4.k0; have S0 := d4.s0 (.int .i64 9); have fz81 := S0.fz 1; have ky81 := S0.k1; have S1 := S0.s1 (.int .i64 n); have fz82 := S1.fz 2; have ky82 := S1.k2; have S2 := S1.s2 (.bool false); have fz83 := S2.fz 3; have ky83 := S2.k3; have S3 := S2.s3 (.slice none 0 0); have fz84 := S3.fz 4; have ky84 := S3.k4; have S4 := S3.s4 (.string ⟨#[]⟩); have fz85 := S4.fz 5; have ky85 := S4.k5; have S5 := S4.s5 (.slice none 0 0); have fz86 := S5.fz 6; have ky86 := S5.k6; have S6 := S5.s6 (.slice none 0 0); have kr0 := S6.k0; have kr1 := S6.k1; have kr2 := S6.k2; have kr3 := S6.k3; have kr4 := S6.k4; have kr5 := S6.k5; have kr6 := S6.k6; clear F8 hq d5 d4 S0 S1 S2 S3 S4 S5 S6)
        | (go_at_call 73; refine (K2.out _ HA1.out).mono ?_; rintro e2 w2 ⟨⟨rfl, hr2⟩, F2⟩; have d5 := HE1.out.frr F2 (by have := HS1.out; omega); have d4 := HG1.out.frr F2 (by omega); have a5 := hr2; have fz20 := d5.fz 1; have ky20 := d5.k1; have e50 := d5.s1 (.int .i64 n); have d40 := (d4).oo (g := w1.heap.size) (i := 1) (x := .int .i64 n) (by have := HS1.out; omega); have a50 := (a5).setO (g := w1.heap.size) (i := 1) (u := .int .i64 n) (by have := HS1.out; omega); have HF2 : Hid (Fr (fun j => j = rb) w _) := ((HF1.out.trans F2 (fun _ _ e => e)).setCell (g := w1.heap.size) (fun e => by have := HS1.out; omega) 1 (.int .i64 n)); have HE2 := hide e50; have HG2 := hide d40; have HA2 := hide a50; have x20 := e50.k0; have x21 := e50.k1; have x22 := e50.k2; have x23 := e50.k3; have x24 := e50.k4; have x25 := e50.k5; have x26 := e50.k6; clear F2 hr2 d5 d4 a5 e50 d40 a50)
        | (go_at_call 60; refine K0.out.mono ?_; rintro e1 w1 ⟨rfl, hr1, F1⟩; have d4 := (HD4.out.frr F1 (by omega)).al (.cells #[.int .i64 9, .int .i64 0, .bool false, .slice none 0 0, .string ⟨#[]⟩, .slice none 0 0, .slice none 0 0] 64); have d5 : DBx (w1.alloc (.cells #[.int .i64 9, .int .i64 0, .bool false, .slice none 0 0, .string ⟨#[]⟩, .slice none 0 0, .slice none 0 0] 64)) w1.heap.size (.int .i64 9) (.int .i64 0) (.bool false) (.slice none 0 0) (.string ⟨#[]⟩) (.slice none 0 0) (.slice none 0 0) := heap_alloc_new w1 _; have HS1 : Hid (w.heap.size < w1.heap.size) := (HD4.out.frr F1 (by omega)).lt; have HA1 := hide (hr1.mono (up_alloc w1 (.cells #[.int .i64 9, .int .i64 0, .bool false, .slice none 0 0, .string ⟨#[]⟩, .slice none 0 0, .slice none 0 0] 64))); have HE1 := hide d5; have HG1 := hide d4; have HF1 := hide ((HF0.out.trans F1 (fun _ _ e => e)).alloc (.cells #[.int .i64 9, .int .i64 0, .bool false, .slice none 0 0, .string ⟨#[]⟩, .slice none 0 0, .slice none 0 0] 64)); have x10 := d5.k0; have x11 := d5.k1; have x12 := d5.k2; have x13 := d5.k3; have x14 := d5.k4; have x15 := d5.k5; have x16 := d5.k6; clear F1 hr1 d4 d5)
        | (go_at_call_of 46 (Value.bool true); refine (HMY.out _).mono ?_; rintro e9 w9 ⟨rfl, hw⟩; replace hw := hw.symm; subst hw))
      refine bodyPost_ret (by simp [results, Try.results77, go_sem, kr0, kr1, kr2, kr3, kr4, kr5, kr6]; rfl) rfl ?_
      have hs1 := HS1.out
      exact RQ.mk' HO.out (set7_fr HF8.out (Nat.le_refl _) _ _ _ _ _ _ _) ⟨_, _, _, _, _, _, _, _, _, _, _, _, _, rfl, HQ8.out.keep (w' := set7 w8 w.heap.size (.int .i64 9) (.int .i64 n) (.bool false) (.slice none 0 0) (.string ⟨#[]⟩) (.slice none 0 0) (.slice none 0 0)) (fun k hk hq => set7_other (by omega) _ _ _ _ _ _ _) (fun k hk hq => by omega), set7_rs HA8.out hrb _ _ _ _ _ _ _⟩

set_option maxRecDepth 20000 in
set_option maxHeartbeats 4000000 in
theorem datum_4 {h : Nat} (_hD : DTOK h) (_hT : RTOKr h) (w0 w : World) (rb p dp : Nat) (l m : List Nat) (hr : RS w0 w rb l p) (h8 : By8 l) (_hl : l.length ≤ 100000000) (_hp : p ≤ 20000) (hd : dp + 1 ≤ 100) (_hh : dp ≤ h) (hn : rdNum l = some (4, m)) :
    Calls Try.prog 77 #[.pointer (some ⟨rb, 0, none⟩), .int .i64 ((dp + 1 : Nat) : Int)] w fun e w' => RQ w rb (okD w0 rb w.heap.size) (rdDat (h + 1) (dp + 1) l p) e w' := by
  obtain ⟨out, hout⟩ : ∃ o, o = rdDat (h + 1) (dp + 1) l p := ⟨_, rfl⟩
  rw [← hout]
  have hrb := hr.lt
  have hlm := rdNum_len hn
  have h8m := rdNum_by8 hn h8
  have hkl := rdNum_le hn
  have hdI : (0 : Int) < ((dp + 1 : Nat) : Int) := by omega
  have edp : ((dp + 1 : Nat) : Int) - 1 = (dp : Int) := by omega
  have HR0 := hide (hr.mono (up_alloc w (.cells #[.int .i64 0, .int .i64 0, .bool false, .slice none 0 0, .string ⟨#[]⟩, .slice none 0 0, .slice none 0 0] 64)))
  have HD4 : Hid (DBx (w.alloc (.cells #[.int .i64 0, .int .i64 0, .bool false, .slice none 0 0, .string ⟨#[]⟩, .slice none 0 0, .slice none 0 0] 64)) w.heap.size (.int .i64 0) (.int .i64 0) (.bool false) (.slice none 0 0) (.string ⟨#[]⟩) (.slice none 0 0) (.slice none 0 0)) := heap_alloc_new w _
  have HF0 : Hid (Fr (fun j => j = rb) w (w.alloc (.cells #[.int .i64 0, .int .i64 0, .bool false, .slice none 0 0, .string ⟨#[]⟩, .slice none 0 0, .slice none 0 0] 64))) := (Fr.refl _ w).alloc _
  have K0 := hide (rdnum_yes HR0.out h8 hn)
  have HMY := hide (fun (W : World) => must_yes W)
  have HMN := hide (fun (W : World) => must_no W)
  cases hx2 : rdTxt m with
  | none =>
    have hfld : rdFld (rdDat h dp) 4 m p = none := by simp [rdFld, hx2]
    have K2 := hide (fun (W : World) (h' : RS w0 W rb m p) => (rdtxt_any w0 W rb p m h' h8m).mono (fun _ _ q => q.no hx2))
    have HO : Hid (out = none) := hout.trans (dat_no1 hn hfld)
    clear hr h8 h8m hn hout _hD _hT hfld hx2
    go_enter Try.func77, Try.ntmps77
    go_wp2_with (first
      | (go_at_call 61; refine (K2.out _ HA1.out).mono ?_; rintro e2 w2 ⟨rfl, F2⟩; have HF2 := hide (HF1.out.trans F2 (fun _ _ e => e)); clear F2)
      | (go_at_call 60; refine K0.out.mono ?_; rintro e1 w1 ⟨rfl, hr1, F1⟩; have d4 := (HD4.out.frr F1 (by omega)).al (.cells #[.int .i64 4, .int .i64 0, .bool false, .slice none 0 0, .string ⟨#[]⟩, .slice none 0 0, .slice none 0 0] 64); have d5 : DBx (w1.alloc (.cells #[.int .i64 4, .int .i64 0, .bool false, .slice none 0 0, .string ⟨#[]⟩, .slice none 0 0, .slice none 0 0] 64)) w1.heap.size (.int .i64 4) (.int .i64 0) (.bool false) (.slice none 0 0) (.string ⟨#[]⟩) (.slice none 0 0) (.slice none 0 0) := heap_alloc_new w1 _; have HS1 : Hid (w.heap.size < w1.heap.size) := (HD4.out.frr F1 (by omega)).lt; have HA1 := hide (hr1.mono (up_alloc w1 (.cells #[.int .i64 4, .int .i64 0, .bool false, .slice none 0 0, .string ⟨#[]⟩, .slice none 0 0, .slice none 0 0] 64))); have HE1 := hide d5; have HG1 := hide d4; have HF1 := hide ((HF0.out.trans F1 (fun _ _ e => e)).alloc (.cells #[.int .i64 4, .int .i64 0, .bool false, .slice none 0 0, .string ⟨#[]⟩, .slice none 0 0, .slice none 0 0] 64)); have x10 := d5.k0; have x11 := d5.k1; have x12 := d5.k2; have x13 := d5.k3; have x14 := d5.k4; have x15 := d5.k5; have x16 := d5.k6; clear F1 hr1 d4 d5)
      | (go_at_call_of 46 (Value.bool true); refine (HMY.out _).mono ?_; rintro e9 w9 ⟨rfl, hw⟩; replace hw := hw.symm; subst hw))
    exact ⟨rfl, RQ.mkno HO.out HF2.out⟩
  | some y2 =>
    obtain ⟨t, ma⟩ := y2
    have hsf2 := rdTxt_suf hx2
    have h8ma := h8m.suf hsf2
    have hln2 := (hsf2).length_le
    have K2 := hide (fun (W : World) (h' : RS w0 W rb m p) => (rdtxt_any w0 W rb p m h' h8m).mono (fun _ _ q => q.yes hx2))
    have hfld : rdFld (rdDat h dp) 4 m p = some (((4 : Int), (0 : Int), false, [], t, [], []), ma, p) := by simp [rdFld, hx2] <;> rfl
    cases hfit : fit1 (h := h) ((4 : Int), (0 : Int), false, [], t, [], []) with
    | false =>
      have HO : Hid (out = none) := hout.trans (dat_no2 hn hfld hfit)
      have HFIT := hide hfit
      clear hr h8 h8m hn hout _hD _hT hx2 hsf2 h8ma hln2 hfld hfit
      go_enter Try.func77, Try.ntmps77
      go_wp2_with (first
        | (go_at_call 53; have hq : DatQ (fun b => w1.heap.size < b) (w2.setCell ⟨w1.heap.size, 4, none⟩ (.string t)) (h + 1) ((4 : Int), (0 : Int), false, [], t, [], []) [.int .i64 4, .int .i64 0, .bool false, .slice none 0 0, .string t, .slice none 0 0, .slice none 0 0] := ⟨_, _, _, rfl, by omega, nilSl _, (fun i hi => by cases hi), nilRow _ _, nilRow _ _, .inl rfl, .inl rfl, .inl rfl⟩; have hfq := fitsQ hq; rw [HFIT.out] at hfq; refine hfq.mono ?_; clear hfq; rintro e8 w8 ⟨rfl, F8⟩; have d5 := HE2.out.fr F8; have d4 := HG2.out.fr F8; have HQ8 := hide (hq.keep (w' := w8) (fun k hk _ => F8.block k hk (fun e => e)) (fun _ _ hq => hq)); have HA8 := hide (HA2.out.mono F8.upw2); have HF8 := hide (HF2.out.trans F8 (fun _ _ e => e.elim)); have x80 := d5.k0; have x81 := d5.k1; have x82 := d5.k2; have x83 := d5.k3; have x84 := d5.k4; have x85 := d5.k5; have x86 := d5.k6; have fz80 := d4.fz 0; have ky80 := d4.k0; have S0 := d4.s0 (.int .i64 4); have fz81 := S0.fz 1; have ky81 := S0.k1; have S1 := S0.s1 (.int .i64 0); have fz82 := S1.fz 2; have ky82 := S1.k2; have S2 := S1.s2 (.bool false); have fz83 := S2.fz 3; have ky83 := S2.k3; have S3 := S2.s3 (.slice none 0 0); have fz84 := S3.fz 4; have ky84 := S3.k4; have S4 := S3.s4 (.string t); have fz85 := S4.fz 5; have ky85 := S4.k5; have S5 := S4.s5 (.slice none 0 0); have fz86 := S5.fz 6; have ky86 := S5.k6; have S6 := S5.s6 (.slice none 0 0); have kr0 := S6.k0; have kr1 := S6.k1; have kr2 := S6.k2; have kr3 := S6.k3; have kr4 := S6.k4; have kr5 := S6.k5; have kr6 := S6.k6; clear F8 hq d5 d4 S0 S1 S2 S3 S4 S5 S6)
        | (go_at_call 61; refine (K2.out _ HA1.out).mono ?_; rintro e2 w2 ⟨⟨rfl, hr2⟩, F2⟩; have d5 := HE1.out.frr F2 (by have := HS1.out; omega); have d4 := HG1.out.frr F2 (by omega); have a5 := hr2; have fz20 := d5.fz 4; have ky20 := d5.k4; have e50 := d5.s4 (.string t); have d40 := (d4).oo (g := w1.heap.size) (i := 4) (x := .string t) (by have := HS1.out; omega); have a50 := (a5).setO (g := w1.heap.size) (i := 4) (u := .string t) (by have := HS1.out; omega); have HF2 : Hid (Fr (fun j => j = rb) w _) := ((HF1.out.trans F2 (fun _ _ e => e)).setCell (g := w1.heap.size) (fun e => by have := HS1.out; omega) 4 (.string t)); have HE2 := hide e50; have HG2 := hide d40; have HA2 := hide a50; have x20 := e50.k0; have x21 := e50.k1; have x22 := e50.k2; have x23 := e50.k3; have x24 := e50.k4; have x25 := e50.k5; have x26 := e50.k6; clear F2 hr2 d5 d4 a5 e50 d40 a50)
        | (go_at_call 60; refine K0.out.mono ?_; rintro e1 w1 ⟨rfl, hr1, F1⟩; have d4 := (HD4.out.frr F1 (by omega)).al (.cells #[.int .i64 4, .int .i64 0, .bool false, .slice none 0 0, .string ⟨#[]⟩, .slice none 0 0, .slice none 0 0] 64); have d5 : DBx (w1.alloc (.cells #[.int .i64 4, .int .i64 0, .bool false, .slice none 0 0, .string ⟨#[]⟩, .slice none 0 0, .slice none 0 0] 64)) w1.heap.size (.int .i64 4) (.int .i64 0) (.bool false) (.slice none 0 0) (.string ⟨#[]⟩) (.slice none 0 0) (.slice none 0 0) := heap_alloc_new w1 _; have HS1 : Hid (w.heap.size < w1.heap.size) := (HD4.out.frr F1 (by omega)).lt; have HA1 := hide (hr1.mono (up_alloc w1 (.cells #[.int .i64 4, .int .i64 0, .bool false, .slice none 0 0, .string ⟨#[]⟩, .slice none 0 0, .slice none 0 0] 64))); have HE1 := hide d5; have HG1 := hide d4; have HF1 := hide ((HF0.out.trans F1 (fun _ _ e => e)).alloc (.cells #[.int .i64 4, .int .i64 0, .bool false, .slice none 0 0, .string ⟨#[]⟩, .slice none 0 0, .slice none 0 0] 64)); have x10 := d5.k0; have x11 := d5.k1; have x12 := d5.k2; have x13 := d5.k3; have x14 := d5.k4; have x15 := d5.k5; have x16 := d5.k6; clear F1 hr1 d4 d5)
        | (go_at_call_of 46 (Value.bool true); refine (HMY.out _).mono ?_; rintro e9 w9 ⟨rfl, hw⟩; replace hw := hw.symm; subst hw)
        | (go_at_call_of 46 (Value.bool false); refine (HMN.out _).mono ?_; rintro e9 w9 ⟨rfl, hw⟩; replace hw := hw.symm; subst hw))
      exact ⟨rfl, RQ.mkno HO.out HF8.out⟩
    | true =>
      have HO : Hid (out = some (((4 : Int), (0 : Int), false, [], t, [], []), ma, p)) := hout.trans (dat_yes hn hfld hfit)
      have HFIT := hide hfit
      clear hr h8 h8m hn hout _hD _hT hx2 hsf2 h8ma hln2 hfld hfit
      go_enter Try.func77, Try.ntmps77
      go_wp2_with (first
        | (go_at_call 53; have hq : DatQ (fun b => w1.heap.size < b) (w2.setCell ⟨w1.heap.size, 4, none⟩ (.string t)) (h + 1) ((4 : Int), (0 : Int), false, [], t, [], []) [.int .i64 4, .int .i64 0, .bool false, .slice none 0 0, .string t, .slice none 0 0, .slice none 0 0] := ⟨_, _, _, rfl, by omega, nilSl _, (fun i hi => by cases hi), nilRow _ _, nilRow _ _, .inl rfl, .inl rfl, .inl rfl⟩; have hfq := fitsQ hq; rw [HFIT.out] at hfq; refine hfq.mono ?_; clear hfq; rintro e8 w8 ⟨rfl, F8⟩; have d5 := HE2.out.fr F8; have d4 := HG2.out.fr F8; have HQ8 := hide (hq.keep (w' := w8) (fun k hk _ => F8.block k hk (fun e => e)) (fun _ _ hq => hq)); have HA8 := hide (HA2.out.mono F8.upw2); have HF8 := hide (HF2.out.trans F8 (fun _ _ e => e.elim)); have x80 := d5.k0; have x81 := d5.k1; have x82 := d5.k2; have x83 := d5.k3; have x84 := d5.k4; have x85 := d5.k5; have x86 := d5.k6; have fz80 := d4.fz 0; have ky80 := d4.k0; have S0 := d4.s0 (.int .i64 4); have fz81 := S0.fz 1; have ky81 := S0.k1; have S1 := S0.s1 (.int .i64 0); have fz82 := S1.fz 2; have ky82 := S1.k2; have S2 := S1.s2 (.bool false); have fz83 := S2.fz 3; have ky83 := S2.k3; have S3 := S2.s3 (.slice none 0 0); have fz84 := S3.fz 4; have ky84 := S3.k4; have S4 := S3.s4 (.string t); have fz85 := S4.fz 5; have ky85 := S4.k5; have S5 := S4.s5 (.slice none 0 0); have fz86 := S5.fz 6; have ky86 := S5.k6; have S6 := S5.s6 (.slice none 0 0); have kr0 := S6.k0; have kr1 := S6.k1; have kr2 := S6.k2; have kr3 := S6.k3; have kr4 := S6.k4; have kr5 := S6.k5; have kr6 := S6.k6; clear F8 hq d5 d4 S0 S1 S2 S3 S4 S5 S6)
        | (go_at_call 61; refine (K2.out _ HA1.out).mono ?_; rintro e2 w2 ⟨⟨rfl, hr2⟩, F2⟩; have d5 := HE1.out.frr F2 (by have := HS1.out; omega); have d4 := HG1.out.frr F2 (by omega); have a5 := hr2; have fz20 := d5.fz 4; have ky20 := d5.k4; have e50 := d5.s4 (.string t); have d40 := (d4).oo (g := w1.heap.size) (i := 4) (x := .string t) (by have := HS1.out; omega); have a50 := (a5).setO (g := w1.heap.size) (i := 4) (u := .string t) (by have := HS1.out; omega); have HF2 : Hid (Fr (fun j => j = rb) w _) := ((HF1.out.trans F2 (fun _ _ e => e)).setCell (g := w1.heap.size) (fun e => by have := HS1.out; omega) 4 (.string t)); have HE2 := hide e50; have HG2 := hide d40; have HA2 := hide a50; have x20 := e50.k0; have x21 := e50.k1; have x22 := e50.k2; have x23 := e50.k3; have x24 := e50.k4; have x25 := e50.k5; have x26 := e50.k6; clear F2 hr2 d5 d4 a5 e50 d40 a50)
        | (go_at_call 60; refine K0.out.mono ?_; rintro e1 w1 ⟨rfl, hr1, F1⟩; have d4 := (HD4.out.frr F1 (by omega)).al (.cells #[.int .i64 4, .int .i64 0, .bool false, .slice none 0 0, .string ⟨#[]⟩, .slice none 0 0, .slice none 0 0] 64); have d5 : DBx (w1.alloc (.cells #[.int .i64 4, .int .i64 0, .bool false, .slice none 0 0, .string ⟨#[]⟩, .slice none 0 0, .slice none 0 0] 64)) w1.heap.size (.int .i64 4) (.int .i64 0) (.bool false) (.slice none 0 0) (.string ⟨#[]⟩) (.slice none 0 0) (.slice none 0 0) := heap_alloc_new w1 _; have HS1 : Hid (w.heap.size < w1.heap.size) := (HD4.out.frr F1 (by omega)).lt; have HA1 := hide (hr1.mono (up_alloc w1 (.cells #[.int .i64 4, .int .i64 0, .bool false, .slice none 0 0, .string ⟨#[]⟩, .slice none 0 0, .slice none 0 0] 64))); have HE1 := hide d5; have HG1 := hide d4; have HF1 := hide ((HF0.out.trans F1 (fun _ _ e => e)).alloc (.cells #[.int .i64 4, .int .i64 0, .bool false, .slice none 0 0, .string ⟨#[]⟩, .slice none 0 0, .slice none 0 0] 64)); have x10 := d5.k0; have x11 := d5.k1; have x12 := d5.k2; have x13 := d5.k3; have x14 := d5.k4; have x15 := d5.k5; have x16 := d5.k6; clear F1 hr1 d4 d5)
        | (go_at_call_of 46 (Value.bool true); refine (HMY.out _).mono ?_; rintro e9 w9 ⟨rfl, hw⟩; replace hw := hw.symm; subst hw))
      refine bodyPost_ret (by simp [results, Try.results77, go_sem, kr0, kr1, kr2, kr3, kr4, kr5, kr6]; rfl) rfl ?_
      have hs1 := HS1.out
      exact RQ.mk' HO.out (set7_fr HF8.out (Nat.le_refl _) _ _ _ _ _ _ _) ⟨_, _, _, _, _, _, _, _, _, _, _, _, _, rfl, HQ8.out.keep (w' := set7 w8 w.heap.size (.int .i64 4) (.int .i64 0) (.bool false) (.slice none 0 0) (.string t) (.slice none 0 0) (.slice none 0 0)) (fun k hk hq => set7_other (by omega) _ _ _ _ _ _ _) (fun k hk hq => by omega), set7_rs HA8.out hrb _ _ _ _ _ _ _⟩

set_option maxRecDepth 20000 in
set_option maxHeartbeats 4000000 in
theorem datum_5 {h : Nat} (_hD : DTOK h) (_hT : RTOKr h) (w0 w : World) (rb p dp : Nat) (l m : List Nat) (hr : RS w0 w rb l p) (h8 : By8 l) (_hl : l.length ≤ 100000000) (_hp : p ≤ 20000) (hd : dp + 1 ≤ 100) (_hh : dp ≤ h) (hn : rdNum l = some (5, m)) :
    Calls Try.prog 77 #[.pointer (some ⟨rb, 0, none⟩), .int .i64 ((dp + 1 : Nat) : Int)] w fun e w' => RQ w rb (okD w0 rb w.heap.size) (rdDat (h + 1) (dp + 1) l p) e w' := by
  obtain ⟨out, hout⟩ : ∃ o, o = rdDat (h + 1) (dp + 1) l p := ⟨_, rfl⟩
  rw [← hout]
  have hrb := hr.lt
  have hlm := rdNum_len hn
  have h8m := rdNum_by8 hn h8
  have hkl := rdNum_le hn
  have hdI : (0 : Int) < ((dp + 1 : Nat) : Int) := by omega
  have edp : ((dp + 1 : Nat) : Int) - 1 = (dp : Int) := by omega
  have HR0 := hide (hr.mono (up_alloc w (.cells #[.int .i64 0, .int .i64 0, .bool false, .slice none 0 0, .string ⟨#[]⟩, .slice none 0 0, .slice none 0 0] 64)))
  have HD4 : Hid (DBx (w.alloc (.cells #[.int .i64 0, .int .i64 0, .bool false, .slice none 0 0, .string ⟨#[]⟩, .slice none 0 0, .slice none 0 0] 64)) w.heap.size (.int .i64 0) (.int .i64 0) (.bool false) (.slice none 0 0) (.string ⟨#[]⟩) (.slice none 0 0) (.slice none 0 0)) := heap_alloc_new w _
  have HF0 : Hid (Fr (fun j => j = rb) w (w.alloc (.cells #[.int .i64 0, .int .i64 0, .bool false, .slice none 0 0, .string ⟨#[]⟩, .slice none 0 0, .slice none 0 0] 64))) := (Fr.refl _ w).alloc _
  have K0 := hide (rdnum_yes HR0.out h8 hn)
  have HMY := hide (fun (W : World) => must_yes W)
  have HMN := hide (fun (W : World) => must_no W)
  cases hx2 : rdTxt m with
  | none =>
    have hfld : rdFld (rdDat h dp) 5 m p = none := by simp [rdFld, hx2]
    have K2 := hide (fun (W : World) (h' : RS w0 W rb m p) => (rdtxt_any w0 W rb p m h' h8m).mono (fun _ _ q => q.no hx2))
    have HO : Hid (out = none) := hout.trans (dat_no1 hn hfld)
    clear hr h8 h8m hn hout _hD _hT hfld hx2
    go_enter Try.func77, Try.ntmps77
    go_wp2_with (first
      | (go_at_call 61; refine (K2.out _ HA1.out).mono ?_; rintro e2 w2 ⟨rfl, F2⟩; have HF2 := hide (HF1.out.trans F2 (fun _ _ e => e)); clear F2)
      | (go_at_call 60; refine K0.out.mono ?_; rintro e1 w1 ⟨rfl, hr1, F1⟩; have d4 := (HD4.out.frr F1 (by omega)).al (.cells #[.int .i64 5, .int .i64 0, .bool false, .slice none 0 0, .string ⟨#[]⟩, .slice none 0 0, .slice none 0 0] 64); have d5 : DBx (w1.alloc (.cells #[.int .i64 5, .int .i64 0, .bool false, .slice none 0 0, .string ⟨#[]⟩, .slice none 0 0, .slice none 0 0] 64)) w1.heap.size (.int .i64 5) (.int .i64 0) (.bool false) (.slice none 0 0) (.string ⟨#[]⟩) (.slice none 0 0) (.slice none 0 0) := heap_alloc_new w1 _; have HS1 : Hid (w.heap.size < w1.heap.size) := (HD4.out.frr F1 (by omega)).lt; have HA1 := hide (hr1.mono (up_alloc w1 (.cells #[.int .i64 5, .int .i64 0, .bool false, .slice none 0 0, .string ⟨#[]⟩, .slice none 0 0, .slice none 0 0] 64))); have HE1 := hide d5; have HG1 := hide d4; have HF1 := hide ((HF0.out.trans F1 (fun _ _ e => e)).alloc (.cells #[.int .i64 5, .int .i64 0, .bool false, .slice none 0 0, .string ⟨#[]⟩, .slice none 0 0, .slice none 0 0] 64)); have x10 := d5.k0; have x11 := d5.k1; have x12 := d5.k2; have x13 := d5.k3; have x14 := d5.k4; have x15 := d5.k5; have x16 := d5.k6; clear F1 hr1 d4 d5)
      | (go_at_call_of 46 (Value.bool true); refine (HMY.out _).mono ?_; rintro e9 w9 ⟨rfl, hw⟩; replace hw := hw.symm; subst hw))
    exact ⟨rfl, RQ.mkno HO.out HF2.out⟩
  | some y2 =>
    obtain ⟨t, ma⟩ := y2
    have hsf2 := rdTxt_suf hx2
    have h8ma := h8m.suf hsf2
    have hln2 := (hsf2).length_le
    have K2 := hide (fun (W : World) (h' : RS w0 W rb m p) => (rdtxt_any w0 W rb p m h' h8m).mono (fun _ _ q => q.yes hx2))
    cases hx3 : rdSgn ma with
    | none =>
      have hfld : rdFld (rdDat h dp) 5 m p = none := by simp [rdFld, hx2, hx3]
      have K3 := hide (fun (W : World) (h' : RS w0 W rb ma p) => (rdsgn_any w0 W rb p ma h' h8ma).mono (fun _ _ q => q.no hx3))
      have HO : Hid (out = none) := hout.trans (dat_no1 hn hfld)
      clear hr h8 h8m hn hout _hD _hT hx2 hsf2 h8ma hln2 hfld hx3
      go_enter Try.func77, Try.ntmps77
      go_wp2_with (first
        | (go_at_call 73; refine (K3.out _ HA2.out).mono ?_; rintro e3 w3 ⟨rfl, F3⟩; have HF3 := hide (HF2.out.trans F3 (fun _ _ e => e)); clear F3)
        | (go_at_call 61; refine (K2.out _ HA1.out).mono ?_; rintro e2 w2 ⟨⟨rfl, hr2⟩, F2⟩; have d5 := HE1.out.frr F2 (by have := HS1.out; omega); have d4 := HG1.out.frr F2 (by omega); have a5 := hr2; have fz20 := d5.fz 4; have ky20 := d5.k4; have e50 := d5.s4 (.string t); have d40 := (d4).oo (g := w1.heap.size) (i := 4) (x := .string t) (by have := HS1.out; omega); have a50 := (a5).setO (g := w1.heap.size) (i := 4) (u := .string t) (by have := HS1.out; omega); have HF2 : Hid (Fr (fun j => j = rb) w _) := ((HF1.out.trans F2 (fun _ _ e => e)).setCell (g := w1.heap.size) (fun e => by have := HS1.out; omega) 4 (.string t)); have HE2 := hide e50; have HG2 := hide d40; have HA2 := hide a50; have x20 := e50.k0; have x21 := e50.k1; have x22 := e50.k2; have x23 := e50.k3; have x24 := e50.k4; have x25 := e50.k5; have x26 := e50.k6; clear F2 hr2 d5 d4 a5 e50 d40 a50)
        | (go_at_call 60; refine K0.out.mono ?_; rintro e1 w1 ⟨rfl, hr1, F1⟩; have d4 := (HD4.out.frr F1 (by omega)).al (.cells #[.int .i64 5, .int .i64 0, .bool false, .slice none 0 0, .string ⟨#[]⟩, .slice none 0 0, .slice none 0 0] 64); have d5 : DBx (w1.alloc (.cells #[.int .i64 5, .int .i64 0, .bool false, .slice none 0 0, .string ⟨#[]⟩, .slice none 0 0, .slice none 0 0] 64)) w1.heap.size (.int .i64 5) (.int .i64 0) (.bool false) (.slice none 0 0) (.string ⟨#[]⟩) (.slice none 0 0) (.slice none 0 0) := heap_alloc_new w1 _; have HS1 : Hid (w.heap.size < w1.heap.size) := (HD4.out.frr F1 (by omega)).lt; have HA1 := hide (hr1.mono (up_alloc w1 (.cells #[.int .i64 5, .int .i64 0, .bool false, .slice none 0 0, .string ⟨#[]⟩, .slice none 0 0, .slice none 0 0] 64))); have HE1 := hide d5; have HG1 := hide d4; have HF1 := hide ((HF0.out.trans F1 (fun _ _ e => e)).alloc (.cells #[.int .i64 5, .int .i64 0, .bool false, .slice none 0 0, .string ⟨#[]⟩, .slice none 0 0, .slice none 0 0] 64)); have x10 := d5.k0; have x11 := d5.k1; have x12 := d5.k2; have x13 := d5.k3; have x14 := d5.k4; have x15 := d5.k5; have x16 := d5.k6; clear F1 hr1 d4 d5)
        | (go_at_call_of 46 (Value.bool true); refine (HMY.out _).mono ?_; rintro e9 w9 ⟨rfl, hw⟩; replace hw := hw.symm; subst hw))
      exact ⟨rfl, RQ.mkno HO.out HF3.out⟩
    | some y3 =>
      obtain ⟨n, mb⟩ := y3
      have hsf3 := rdSgn_suf hx3
      have h8mb := h8ma.suf hsf3.2
      have hln3 := (hsf3.2).length_le
      have K3 := hide (fun (W : World) (h' : RS w0 W rb ma p) => (rdsgn_any w0 W rb p ma h' h8ma).mono (fun _ _ q => q.yes hx3))
      have hfld : rdFld (rdDat h dp) 5 m p = some (((5 : Int), n, false, [], t, [], []), mb, p) := by simp [rdFld, hx2, hx3] <;> rfl
      cases hfit : fit1 (h := h) ((5 : Int), n, false, [], t, [], []) with
      | false =>
        have HO : Hid (out = none) := hout.trans (dat_no2 hn hfld hfit)
        have hN := sgn_rng hx3
        have HFIT := hide hfit
        clear hr h8 h8m hn hout _hD _hT hx2 hsf2 h8ma hln2 hx3 hsf3 h8mb hln3 hfld hfit
        go_enter Try.func77, Try.ntmps77
        go_wp2_with (first
          | (go_at_call 53; have hq : DatQ (fun b => w1.heap.size < b) (w3.setCell ⟨w1.heap.size, 1, none⟩ (.int .i64 n)) (h + 1) ((5 : Int), n, false, [], t, [], []) [.int .i64 5, .int .i64 n, .bool false, .slice none 0 0, .string t, .slice none 0 0, .slice none 0 0] := ⟨_, _, _, rfl, hN, nilSl _, (fun i hi => by cases hi), nilRow _ _, nilRow _ _, .inl rfl, .inl rfl, .inl rfl⟩; have hfq := fitsQ hq; rw [HFIT.out] at hfq; refine hfq.mono ?_; clear hfq; rintro e8 w8 ⟨rfl, F8⟩; have d5 := HE3.out.fr F8; have d4 := HG3.out.fr F8; have HQ8 := hide (hq.keep (w' := w8) (fun k hk _ => F8.block k hk (fun e => e)) (fun _ _ hq => hq)); have HA8 := hide (HA3.out.mono F8.upw2); have HF8 := hide (HF3.out.trans F8 (fun _ _ e => e.elim)); have x80 := d5.k0; have x81 := d5.k1; have x82 := d5.k2; have x83 := d5.k3; have x84 := d5.k4; have x85 := d5.k5; have x86 := d5.k6; have fz80 := d4.fz 0; have ky80 := d4.k0; have S0 := d4.s0 (.int .i64 5); have fz81 := S0.fz 1; have ky81 := S0.k1; have S1 := S0.s1 (.int .i64 n); have fz82 := S1.fz 2; have ky82 := S1.k2; have S2 := S1.s2 (.bool false); have fz83 := S2.fz 3; have ky83 := S2.k3; have S3 := S2.s3 (.slice none 0 0); have fz84 := S3.fz 4; have ky84 := S3.k4; have S4 := S3.s4 (.string t); have fz85 := S4.fz 5; have ky85 := S4.k5; have S5 := S4.s5 (.slice none 0 0); have fz86 := S5.fz 6; have ky86 := S5.k6; have S6 := S5.s6 (.slice none 0 0); have kr0 := S6.k0; have kr1 := S6.k1; have kr2 := S6.k2; have kr3 := S6.k3; have kr4 := S6.k4; have kr5 := S6.k5; have kr6 := S6.k6; clear F8 hq d5 d4 S0 S1 S2 S3 S4 S5 S6)
          | (go_at_call 73; refine (K3.out _ HA2.out).mono ?_; rintro e3 w3 ⟨⟨rfl, hr3⟩, F3⟩; have d5 := HE2.out.frr F3 (by have := HS1.out; omega); have d4 := HG2.out.frr F3 (by omega); have a5 := hr3; have fz30 := d5.fz 1; have ky30 := d5.k1; have e50 := d5.s1 (.int .i64 n); have d40 := (d4).oo (g := w1.heap.size) (i := 1) (x := .int .i64 n) (by have := HS1.out; omega); have a50 := (a5).setO (g := w1.heap.size) (i := 1) (u := .int .i64 n) (by have := HS1.out; omega); have HF3 : Hid (Fr (fun j => j = rb) w _) := ((HF2.out.trans F3 (fun _ _ e => e)).setCell (g := w1.heap.size) (fun e => by have := HS1.out; omega) 1 (.int .i64 n)); have HE3 := hide e50; have HG3 := hide d40; have HA3 := hide a50; have x30 := e50.k0; have x31 := e50.k1; have x32 := e50.k2; have x33 := e50.k3; have x34 := e50.k4; have x35 := e50.k5; have x36 := e50.k6; clear F3 hr3 d5 d4 a5 e50 d40 a50)
          | (go_at_call 61; refine (K2.out _ HA1.out).mono ?_; rintro e2 w2 ⟨⟨rfl, hr2⟩, F2⟩; have d5 := HE1.out.frr F2 (by have := HS1.out; omega); have d4 := HG1.out.frr F2 (by omega); have a5 := hr2; have fz20 := d5.fz 4; have ky20 := d5.k4; have e50 := d5.s4 (.string t); have d40 := (d4).oo (g := w1.heap.size) (i := 4) (x := .string t) (by have := HS1.out; omega); have a50 := (a5).setO (g := w1.heap.size) (i := 4) (u := .string t) (by have := HS1.out; omega); have HF2 : Hid (Fr (fun j => j = rb) w _) := ((HF1.out.trans F2 (fun _ _ e => e)).setCell (g := w1.heap.size) (fun e => by have := HS1.out; omega) 4 (.string t)); have HE2 := hide e50; have HG2 := hide d40; have HA2 := hide a50; have x20 := e50.k0; have x21 := e50.k1; have x22 := e50.k2; have x23 := e50.k3; have x24 := e50.k4; have x25 := e50.k5; have x26 := e50.k6; clear F2 hr2 d5 d4 a5 e50 d40 a50)
          | (go_at_call 60; refine K0.out.mono ?_; rintro e1 w1 ⟨rfl, hr1, F1⟩; have d4 := (HD4.out.frr F1 (by omega)).al (.cells #[.int .i64 5, .int .i64 0, .bool false, .slice none 0 0, .string ⟨#[]⟩, .slice none 0 0, .slice none 0 0] 64); have d5 : DBx (w1.alloc (.cells #[.int .i64 5, .int .i64 0, .bool false, .slice none 0 0, .string ⟨#[]⟩, .slice none 0 0, .slice none 0 0] 64)) w1.heap.size (.int .i64 5) (.int .i64 0) (.bool false) (.slice none 0 0) (.string ⟨#[]⟩) (.slice none 0 0) (.slice none 0 0) := heap_alloc_new w1 _; have HS1 : Hid (w.heap.size < w1.heap.size) := (HD4.out.frr F1 (by omega)).lt; have HA1 := hide (hr1.mono (up_alloc w1 (.cells #[.int .i64 5, .int .i64 0, .bool false, .slice none 0 0, .string ⟨#[]⟩, .slice none 0 0, .slice none 0 0] 64))); have HE1 := hide d5; have HG1 := hide d4; have HF1 := hide ((HF0.out.trans F1 (fun _ _ e => e)).alloc (.cells #[.int .i64 5, .int .i64 0, .bool false, .slice none 0 0, .string ⟨#[]⟩, .slice none 0 0, .slice none 0 0] 64)); have x10 := d5.k0; have x11 := d5.k1; have x12 := d5.k2; have x13 := d5.k3; have x14 := d5.k4; have x15 := d5.k5; have x16 := d5.k6; clear F1 hr1 d4 d5)
          | (go_at_call_of 46 (Value.bool true); refine (HMY.out _).mono ?_; rintro e9 w9 ⟨rfl, hw⟩; replace hw := hw.symm; subst hw)
          | (go_at_call_of 46 (Value.bool false); refine (HMN.out _).mono ?_; rintro e9 w9 ⟨rfl, hw⟩; replace hw := hw.symm; subst hw))
        exact ⟨rfl, RQ.mkno HO.out HF8.out⟩
      | true =>
        have HO : Hid (out = some (((5 : Int), n, false, [], t, [], []), mb, p)) := hout.trans (dat_yes hn hfld hfit)
        have hN := sgn_rng hx3
        have HFIT := hide hfit
        clear hr h8 h8m hn hout _hD _hT hx2 hsf2 h8ma hln2 hx3 hsf3 h8mb hln3 hfld hfit
        go_enter Try.func77, Try.ntmps77
        go_wp2_with (first
          | (go_at_call 53; have hq : DatQ (fun b => w1.heap.size < b) (w3.setCell ⟨w1.heap.size, 1, none⟩ (.int .i64 n)) (h + 1) ((5 : Int), n, false, [], t, [], []) [.int .i64 5, .int .i64 n, .bool false, .slice none 0 0, .string t, .slice none 0 0, .slice none 0 0] := ⟨_, _, _, rfl, hN, nilSl _, (fun i hi => by cases hi), nilRow _ _, nilRow _ _, .inl rfl, .inl rfl, .inl rfl⟩; have hfq := fitsQ hq; rw [HFIT.out] at hfq; refine hfq.mono ?_; clear hfq; rintro e8 w8 ⟨rfl, F8⟩; have d5 := HE3.out.fr F8; have d4 := HG3.out.fr F8; have HQ8 := hide (hq.keep (w' := w8) (fun k hk _ => F8.block k hk (fun e => e)) (fun _ _ hq => hq)); have HA8 := hide (HA3.out.mono F8.upw2); have HF8 := hide (HF3.out.trans F8 (fun _ _ e => e.elim)); have x80 := d5.k0; have x81 := d5.k1; have x82 := d5.k2; have x83 := d5.k3; have x84 := d5.k4; have x85 := d5.k5; have x86 := d5.k6; have fz80 := d4.fz 0; have ky80 := d4.k0; have S0 := d4.s0 (.int .i64 5); have fz81 := S0.fz 1; have ky81 := S0.k1; have S1 := S0.s1 (.int .i64 n); have fz82 := S1.fz 2; have ky82 := S1.k2; have S2 := S1.s2 (.bool false); have fz83 := S2.fz 3; have ky83 := S2.k3; have S3 := S2.s3 (.slice none 0 0); have fz84 := S3.fz 4; have ky84 := S3.k4; have S4 := S3.s4 (.string t); have fz85 := S4.fz 5; have ky85 := S4.k5; have S5 := S4.s5 (.slice none 0 0); have fz86 := S5.fz 6; have ky86 := S5.k6; have S6 := S5.s6 (.slice none 0 0); have kr0 := S6.k0; have kr1 := S6.k1; have kr2 := S6.k2; have kr3 := S6.k3; have kr4 := S6.k4; have kr5 := S6.k5; have kr6 := S6.k6; clear F8 hq d5 d4 S0 S1 S2 S3 S4 S5 S6)
          | (go_at_call 73; refine (K3.out _ HA2.out).mono ?_; rintro e3 w3 ⟨⟨rfl, hr3⟩, F3⟩; have d5 := HE2.out.frr F3 (by have := HS1.out; omega); have d4 := HG2.out.frr F3 (by omega); have a5 := hr3; have fz30 := d5.fz 1; have ky30 := d5.k1; have e50 := d5.s1 (.int .i64 n); have d40 := (d4).oo (g := w1.heap.size) (i := 1) (x := .int .i64 n) (by have := HS1.out; omega); have a50 := (a5).setO (g := w1.heap.size) (i := 1) (u := .int .i64 n) (by have := HS1.out; omega); have HF3 : Hid (Fr (fun j => j = rb) w _) := ((HF2.out.trans F3 (fun _ _ e => e)).setCell (g := w1.heap.size) (fun e => by have := HS1.out; omega) 1 (.int .i64 n)); have HE3 := hide e50; have HG3 := hide d40; have HA3 := hide a50; have x30 := e50.k0; have x31 := e50.k1; have x32 := e50.k2; have x33 := e50.k3; have x34 := e50.k4; have x35 := e50.k5; have x36 := e50.k6; clear F3 hr3 d5 d4 a5 e50 d40 a50)
          | (go_at_call 61; refine (K2.out _ HA1.out).mono ?_; rintro e2 w2 ⟨⟨rfl, hr2⟩, F2⟩; have d5 := HE1.out.frr F2 (by have := HS1.out; omega); have d4 := HG1.out.frr F2 (by omega); have a5 := hr2; have fz20 := d5.fz 4; have ky20 := d5.k4; have e50 := d5.s4 (.string t); have d40 := (d4).oo (g := w1.heap.size) (i := 4) (x := .string t) (by have := HS1.out; omega); have a50 := (a5).setO (g := w1.heap.size) (i := 4) (u := .string t) (by have := HS1.out; omega); have HF2 : Hid (Fr (fun j => j = rb) w _) := ((HF1.out.trans F2 (fun _ _ e => e)).setCell (g := w1.heap.size) (fun e => by have := HS1.out; omega) 4 (.string t)); have HE2 := hide e50; have HG2 := hide d40; have HA2 := hide a50; have x20 := e50.k0; have x21 := e50.k1; have x22 := e50.k2; have x23 := e50.k3; have x24 := e50.k4; have x25 := e50.k5; have x26 := e50.k6; clear F2 hr2 d5 d4 a5 e50 d40 a50)
          | (go_at_call 60; refine K0.out.mono ?_; rintro e1 w1 ⟨rfl, hr1, F1⟩; have d4 := (HD4.out.frr F1 (by omega)).al (.cells #[.int .i64 5, .int .i64 0, .bool false, .slice none 0 0, .string ⟨#[]⟩, .slice none 0 0, .slice none 0 0] 64); have d5 : DBx (w1.alloc (.cells #[.int .i64 5, .int .i64 0, .bool false, .slice none 0 0, .string ⟨#[]⟩, .slice none 0 0, .slice none 0 0] 64)) w1.heap.size (.int .i64 5) (.int .i64 0) (.bool false) (.slice none 0 0) (.string ⟨#[]⟩) (.slice none 0 0) (.slice none 0 0) := heap_alloc_new w1 _; have HS1 : Hid (w.heap.size < w1.heap.size) := (HD4.out.frr F1 (by omega)).lt; have HA1 := hide (hr1.mono (up_alloc w1 (.cells #[.int .i64 5, .int .i64 0, .bool false, .slice none 0 0, .string ⟨#[]⟩, .slice none 0 0, .slice none 0 0] 64))); have HE1 := hide d5; have HG1 := hide d4; have HF1 := hide ((HF0.out.trans F1 (fun _ _ e => e)).alloc (.cells #[.int .i64 5, .int .i64 0, .bool false, .slice none 0 0, .string ⟨#[]⟩, .slice none 0 0, .slice none 0 0] 64)); have x10 := d5.k0; have x11 := d5.k1; have x12 := d5.k2; have x13 := d5.k3; have x14 := d5.k4; have x15 := d5.k5; have x16 := d5.k6; clear F1 hr1 d4 d5)
          | (go_at_call_of 46 (Value.bool true); refine (HMY.out _).mono ?_; rintro e9 w9 ⟨rfl, hw⟩; replace hw := hw.symm; subst hw))
        refine bodyPost_ret (by simp [results, Try.results77, go_sem, kr0, kr1, kr2, kr3, kr4, kr5, kr6]; rfl) rfl ?_
        have hs1 := HS1.out
        exact RQ.mk' HO.out (set7_fr HF8.out (Nat.le_refl _) _ _ _ _ _ _ _) ⟨_, _, _, _, _, _, _, _, _, _, _, _, _, rfl, HQ8.out.keep (w' := set7 w8 w.heap.size (.int .i64 5) (.int .i64 n) (.bool false) (.slice none 0 0) (.string t) (.slice none 0 0) (.slice none 0 0)) (fun k hk hq => set7_other (by omega) _ _ _ _ _ _ _) (fun k hk hq => by omega), set7_rs HA8.out hrb _ _ _ _ _ _ _⟩

set_option maxRecDepth 20000 in
set_option maxHeartbeats 4000000 in
theorem datum_6 {h : Nat} (hD : DTOK h) (hT : RTOKr h) (w0 w : World) (rb p dp : Nat) (l m : List Nat) (hr : RS w0 w rb l p) (h8 : By8 l) (hl : l.length ≤ 100000000) (hp : p ≤ 20000) (hd : dp + 1 ≤ 100) (hh : dp ≤ h) (hn : rdNum l = some (6, m)) :
    Calls Try.prog 77 #[.pointer (some ⟨rb, 0, none⟩), .int .i64 ((dp + 1 : Nat) : Int)] w fun e w' => RQ w rb (okD w0 rb w.heap.size) (rdDat (h + 1) (dp + 1) l p) e w' := by
  obtain ⟨out, hout⟩ : ∃ o, o = rdDat (h + 1) (dp + 1) l p := ⟨_, rfl⟩
  rw [← hout]
  have hrb := hr.lt
  have hlm := rdNum_len hn
  have h8m := rdNum_by8 hn h8
  have hkl := rdNum_le hn
  have hdI : (0 : Int) < ((dp + 1 : Nat) : Int) := by omega
  have edp : ((dp + 1 : Nat) : Int) - 1 = (dp : Int) := by omega
  have HR0 := hide (hr.mono (up_alloc w (.cells #[.int .i64 0, .int .i64 0, .bool false, .slice none 0 0, .string ⟨#[]⟩, .slice none 0 0, .slice none 0 0] 64)))
  have HD4 : Hid (DBx (w.alloc (.cells #[.int .i64 0, .int .i64 0, .bool false, .slice none 0 0, .string ⟨#[]⟩, .slice none 0 0, .slice none 0 0] 64)) w.heap.size (.int .i64 0) (.int .i64 0) (.bool false) (.slice none 0 0) (.string ⟨#[]⟩) (.slice none 0 0) (.slice none 0 0)) := heap_alloc_new w _
  have HF0 : Hid (Fr (fun j => j = rb) w (w.alloc (.cells #[.int .i64 0, .int .i64 0, .bool false, .slice none 0 0, .string ⟨#[]⟩, .slice none 0 0, .slice none 0 0] 64))) := (Fr.refl _ w).alloc _
  have K0 := hide (rdnum_yes HR0.out h8 hn)
  have HMY := hide (fun (W : World) => must_yes W)
  have HMN := hide (fun (W : World) => must_no W)
  cases hx2 : rdDta (rdDat h dp) m p with
  | none =>
    have hfld : rdFld (rdDat h dp) 6 m p = none := by simp [rdFld, hx2]
    have K2 := hide (fun (W : World) (h' : RS w0 W rb m p) => (hD w0 W rb p dp m h' h8m (by omega) (by omega) (by omega) (by omega)).mono (fun _ _ q => q.no hx2))
    have HO : Hid (out = none) := hout.trans (dat_no1 hn hfld)
    clear hr h8 h8m hn hout hD hT hfld hx2
    go_enter Try.func77, Try.ntmps77
    go_wp2_with (first
      | (go_at_call 65; refine (K2.out _ HA1.out).mono ?_; rintro e2 w2 ⟨rfl, F2⟩; have HF2 := hide (HF1.out.trans F2 (fun _ _ e => e)); clear F2)
      | (go_at_call 60; refine K0.out.mono ?_; rintro e1 w1 ⟨rfl, hr1, F1⟩; have d4 := (HD4.out.frr F1 (by omega)).al (.cells #[.int .i64 6, .int .i64 0, .bool false, .slice none 0 0, .string ⟨#[]⟩, .slice none 0 0, .slice none 0 0] 64); have d5 : DBx (w1.alloc (.cells #[.int .i64 6, .int .i64 0, .bool false, .slice none 0 0, .string ⟨#[]⟩, .slice none 0 0, .slice none 0 0] 64)) w1.heap.size (.int .i64 6) (.int .i64 0) (.bool false) (.slice none 0 0) (.string ⟨#[]⟩) (.slice none 0 0) (.slice none 0 0) := heap_alloc_new w1 _; have HS1 : Hid (w.heap.size < w1.heap.size) := (HD4.out.frr F1 (by omega)).lt; have HA1 := hide (hr1.mono (up_alloc w1 (.cells #[.int .i64 6, .int .i64 0, .bool false, .slice none 0 0, .string ⟨#[]⟩, .slice none 0 0, .slice none 0 0] 64))); have HE1 := hide d5; have HG1 := hide d4; have HF1 := hide ((HF0.out.trans F1 (fun _ _ e => e)).alloc (.cells #[.int .i64 6, .int .i64 0, .bool false, .slice none 0 0, .string ⟨#[]⟩, .slice none 0 0, .slice none 0 0] 64)); have x10 := d5.k0; have x11 := d5.k1; have x12 := d5.k2; have x13 := d5.k3; have x14 := d5.k4; have x15 := d5.k5; have x16 := d5.k6; clear F1 hr1 d4 d5)
      | (go_at_call_of 46 (Value.bool true); refine (HMY.out _).mono ?_; rintro e9 w9 ⟨rfl, hw⟩; replace hw := hw.symm; subst hw))
    exact ⟨rfl, RQ.mkno HO.out HF2.out⟩
  | some y2 =>
    obtain ⟨I, ma, qa⟩ := y2
    have hsf2 := rdDta_suf (rdDat_suf h dp) _ _ _ _ _ hx2
    have h8ma := h8m.suf hsf2.1
    have hln2 := (hsf2.1).length_le
    have hqa2 := hsf2.2
    have K2 := hide (fun (W : World) (h' : RS w0 W rb m p) => (hD w0 W rb p dp m h' h8m (by omega) (by omega) (by omega) (by omega)).mono (fun _ _ q => q.yes hx2))
    cases hx3 : rdRst (rdDat h dp) ma qa with
    | none =>
      have hfld : rdFld (rdDat h dp) 6 m p = none := by simp [rdFld, hx2, hx3]
      have K3 := hide (fun (W : World) (h' : RS w0 W rb ma qa) => (hT w0 W rb qa dp ma h' h8ma (by omega) (by omega) (by omega) (by omega)).mono (fun _ _ q => q.no hx3))
      have HO : Hid (out = none) := hout.trans (dat_no1 hn hfld)
      clear hr h8 h8m hn hout hD hT hx2 hsf2 h8ma hln2 hqa2 hfld hx3
      go_enter Try.func77, Try.ntmps77
      go_wp2_with (first
        | (go_at_call 83; refine (K3.out _ HA2.out).mono ?_; rintro e3 w3 ⟨rfl, F3⟩; have HF3 := hide (HF2.out.trans F3 (fun _ _ e => e)); clear F3)
        | (go_at_call 65; refine (K2.out _ HA1.out).mono ?_; rintro e2 w2 ⟨⟨v2, rfl, hv2, hw2, hr2⟩, F2⟩; obtain ⟨ao2, cp2, rfl⟩ := hv2.shape; have d5 := HE1.out.frr F2 (by have := HS1.out; omega); have d4 := HG1.out.frr F2 (by omega); have a5 := hr2; have fz20 := d5.fz 5; have ky20 := d5.k5; have e50 := d5.s5 (.slice ao2 I.length cp2); have d40 := (d4).oo (g := w1.heap.size) (i := 5) (x := .slice ao2 I.length cp2) (by have := HS1.out; omega); have a50 := (a5).setO (g := w1.heap.size) (i := 5) (u := .slice ao2 I.length cp2) (by have := HS1.out; omega); have HF2 : Hid (Fr (fun j => j = rb) w _) := ((HF1.out.trans F2 (fun _ _ e => e)).setCell (g := w1.heap.size) (fun e => by have := HS1.out; omega) 5 (.slice ao2 I.length cp2)); have HE2 := hide e50; have HG2 := hide d40; have HA2 := hide a50; have x20 := e50.k0; have x21 := e50.k1; have x22 := e50.k2; have x23 := e50.k3; have x24 := e50.k4; have x25 := e50.k5; have x26 := e50.k6; have HV2 := hide hv2; have HW2 := hide hw2; clear F2 hr2 d5 d4 a5 e50 d40 a50 hv2 hw2)
        | (go_at_call 60; refine K0.out.mono ?_; rintro e1 w1 ⟨rfl, hr1, F1⟩; have d4 := (HD4.out.frr F1 (by omega)).al (.cells #[.int .i64 6, .int .i64 0, .bool false, .slice none 0 0, .string ⟨#[]⟩, .slice none 0 0, .slice none 0 0] 64); have d5 : DBx (w1.alloc (.cells #[.int .i64 6, .int .i64 0, .bool false, .slice none 0 0, .string ⟨#[]⟩, .slice none 0 0, .slice none 0 0] 64)) w1.heap.size (.int .i64 6) (.int .i64 0) (.bool false) (.slice none 0 0) (.string ⟨#[]⟩) (.slice none 0 0) (.slice none 0 0) := heap_alloc_new w1 _; have HS1 : Hid (w.heap.size < w1.heap.size) := (HD4.out.frr F1 (by omega)).lt; have HA1 := hide (hr1.mono (up_alloc w1 (.cells #[.int .i64 6, .int .i64 0, .bool false, .slice none 0 0, .string ⟨#[]⟩, .slice none 0 0, .slice none 0 0] 64))); have HE1 := hide d5; have HG1 := hide d4; have HF1 := hide ((HF0.out.trans F1 (fun _ _ e => e)).alloc (.cells #[.int .i64 6, .int .i64 0, .bool false, .slice none 0 0, .string ⟨#[]⟩, .slice none 0 0, .slice none 0 0] 64)); have x10 := d5.k0; have x11 := d5.k1; have x12 := d5.k2; have x13 := d5.k3; have x14 := d5.k4; have x15 := d5.k5; have x16 := d5.k6; clear F1 hr1 d4 d5)
        | (go_at_call_of 46 (Value.bool true); refine (HMY.out _).mono ?_; rintro e9 w9 ⟨rfl, hw⟩; replace hw := hw.symm; subst hw))
      exact ⟨rfl, RQ.mkno HO.out HF3.out⟩
    | some y3 =>
      obtain ⟨R, mb, qb⟩ := y3
      have hsf3 := rdRst_suf (rdDat_suf h dp) _ _ _ _ _ hx3
      have h8mb := h8ma.suf hsf3.1
      have hln3 := (hsf3.1).length_le
      have hqa3 := hsf3.2
      have K3 := hide (fun (W : World) (h' : RS w0 W rb ma qa) => (hT w0 W rb qa dp ma h' h8ma (by omega) (by omega) (by omega) (by omega)).mono (fun _ _ q => q.yes hx3))
      have hfld : rdFld (rdDat h dp) 6 m p = some (((6 : Int), (0 : Int), false, [], ⟨#[]⟩, I, R), mb, qb) := by simp [rdFld, hx2, hx3] <;> rfl
      cases hfit : fit1 (h := h) ((6 : Int), (0 : Int), false, [], ⟨#[]⟩, I, R) with
      | false =>
        have HO : Hid (out = none) := hout.trans (dat_no2 hn hfld hfit)
        have HFIT := hide hfit
        clear hr h8 h8m hn hout hD hT hx2 hsf2 h8ma hln2 hqa2 hx3 hsf3 h8mb hln3 hqa3 hfld hfit
        go_enter Try.func77, Try.ntmps77
        go_wp2_with (first
          | (go_at_call 53; have hq : DatQ (fun b => w1.heap.size < b) (w3.setCell ⟨w1.heap.size, 6, none⟩ (.slice ao3 R.length cp3)) (h + 1) ((6 : Int), (0 : Int), false, [], ⟨#[]⟩, I, R) [.int .i64 6, .int .i64 0, .bool false, .slice none 0 0, .string ⟨#[]⟩, .slice ao2 I.length cp2, .slice ao3 R.length cp3] := (by have hs := HS1.out; have he := HE2.out.lt; have a := rowQ_keep HV2.out HW2.out (w' := (w3.setCell ⟨w1.heap.size, 6, none⟩ (.slice ao3 R.length cp3))) (Q' := (fun b => w1.heap.size < b)) (fun k hk hq => (heap_setCell_other _ _ _ _ (by show k ≠ w1.heap.size; simp at hq; omega)).trans ((HVK.out.block k (by simpa [World.setCell] using hk) (by simp at hq; omega)).trans (heap_setCell_other _ _ _ _ (by show k ≠ w1.heap.size; simp at hq; omega)))) (fun k hq => by simp at hq; omega); have b := rowQ_keep HV3.out HW3.out (w' := (w3.setCell ⟨w1.heap.size, 6, none⟩ (.slice ao3 R.length cp3))) (Q' := (fun b => w1.heap.size < b)) (fun k hk hq => heap_setCell_other _ _ _ _ (by show k ≠ w1.heap.size; omega)) (fun k hq => by omega); exact ⟨_, _, _, rfl, by omega, nilSl _, (fun i hi => by cases hi), a.1, b.1, .inl rfl, a.2, b.2⟩); have hfq := fitsQ hq; rw [HFIT.out] at hfq; refine hfq.mono ?_; clear hfq; rintro e8 w8 ⟨rfl, F8⟩; have d5 := HE3.out.fr F8; have d4 := HG3.out.fr F8; have HQ8 := hide (hq.keep (w' := w8) (fun k hk _ => F8.block k hk (fun e => e)) (fun _ _ hq => hq)); have HA8 := hide (HA3.out.mono F8.upw2); have HF8 := hide (HF3.out.trans F8 (fun _ _ e => e.elim)); have x80 := d5.k0; have x81 := d5.k1; have x82 := d5.k2; have x83 := d5.k3; have x84 := d5.k4; have x85 := d5.k5; have x86 := d5.k6; have fz80 := d4.fz 0; have ky80 := d4.k0; have S0 := d4.s0 (.int .i64 6); have fz81 := S0.fz 1; have ky81 := S0.k1; have S1 := S0.s1 (.int .i64 0); have fz82 := S1.fz 2; have ky82 := S1.k2; have S2 := S1.s2 (.bool false); have fz83 := S2.fz 3; have ky83 := S2.k3; have S3 := S2.s3 (.slice none 0 0); have fz84 := S3.fz 4; have ky84 := S3.k4; have S4 := S3.s4 (.string ⟨#[]⟩); have fz85 := S4.fz 5; have ky85 := S4.k5; have S5 := S4.s5 (.slice ao2 I.length cp2); have fz86 := S5.fz 6; have ky86 := S5.k6; have S6 := S5.s6 (.slice ao3 R.length cp3); have kr0 := S6.k0; have kr1 := S6.k1; have kr2 := S6.k2; have kr3 := S6.k3; have kr4 := S6.k4; have kr5 := S6.k5; have kr6 := S6.k6; clear F8 hq d5 d4 S0 S1 S2 S3 S4 S5 S6)
          | (go_at_call 83; refine (K3.out _ HA2.out).mono ?_; rintro e3 w3 ⟨⟨v3, rfl, hv3, hw3, hr3⟩, F3⟩; obtain ⟨ao3, cp3, rfl⟩ := hv3.shape; have d5 := HE2.out.frr F3 (by have := HS1.out; omega); have d4 := HG2.out.frr F3 (by omega); have a5 := hr3; have fz30 := d5.fz 6; have ky30 := d5.k6; have e50 := d5.s6 (.slice ao3 R.length cp3); have d40 := (d4).oo (g := w1.heap.size) (i := 6) (x := .slice ao3 R.length cp3) (by have := HS1.out; omega); have a50 := (a5).setO (g := w1.heap.size) (i := 6) (u := .slice ao3 R.length cp3) (by have := HS1.out; omega); have HF3 : Hid (Fr (fun j => j = rb) w _) := ((HF2.out.trans F3 (fun _ _ e => e)).setCell (g := w1.heap.size) (fun e => by have := HS1.out; omega) 6 (.slice ao3 R.length cp3)); have HE3 := hide e50; have HG3 := hide d40; have HA3 := hide a50; have x30 := e50.k0; have x31 := e50.k1; have x32 := e50.k2; have x33 := e50.k3; have x34 := e50.k4; have x35 := e50.k5; have x36 := e50.k6; have HV3 := hide hv3; have HW3 := hide hw3; have HVK := hide F3; clear F3 hr3 d5 d4 a5 e50 d40 a50 hv3 hw3)
          | (go_at_call 65; refine (K2.out _ HA1.out).mono ?_; rintro e2 w2 ⟨⟨v2, rfl, hv2, hw2, hr2⟩, F2⟩; obtain ⟨ao2, cp2, rfl⟩ := hv2.shape; have d5 := HE1.out.frr F2 (by have := HS1.out; omega); have d4 := HG1.out.frr F2 (by omega); have a5 := hr2; have fz20 := d5.fz 5; have ky20 := d5.k5; have e50 := d5.s5 (.slice ao2 I.length cp2); have d40 := (d4).oo (g := w1.heap.size) (i := 5) (x := .slice ao2 I.length cp2) (by have := HS1.out; omega); have a50 := (a5).setO (g := w1.heap.size) (i := 5) (u := .slice ao2 I.length cp2) (by have := HS1.out; omega); have HF2 : Hid (Fr (fun j => j = rb) w _) := ((HF1.out.trans F2 (fun _ _ e => e)).setCell (g := w1.heap.size) (fun e => by have := HS1.out; omega) 5 (.slice ao2 I.length cp2)); have HE2 := hide e50; have HG2 := hide d40; have HA2 := hide a50; have x20 := e50.k0; have x21 := e50.k1; have x22 := e50.k2; have x23 := e50.k3; have x24 := e50.k4; have x25 := e50.k5; have x26 := e50.k6; have HV2 := hide hv2; have HW2 := hide hw2; clear F2 hr2 d5 d4 a5 e50 d40 a50 hv2 hw2)
          | (go_at_call 60; refine K0.out.mono ?_; rintro e1 w1 ⟨rfl, hr1, F1⟩; have d4 := (HD4.out.frr F1 (by omega)).al (.cells #[.int .i64 6, .int .i64 0, .bool false, .slice none 0 0, .string ⟨#[]⟩, .slice none 0 0, .slice none 0 0] 64); have d5 : DBx (w1.alloc (.cells #[.int .i64 6, .int .i64 0, .bool false, .slice none 0 0, .string ⟨#[]⟩, .slice none 0 0, .slice none 0 0] 64)) w1.heap.size (.int .i64 6) (.int .i64 0) (.bool false) (.slice none 0 0) (.string ⟨#[]⟩) (.slice none 0 0) (.slice none 0 0) := heap_alloc_new w1 _; have HS1 : Hid (w.heap.size < w1.heap.size) := (HD4.out.frr F1 (by omega)).lt; have HA1 := hide (hr1.mono (up_alloc w1 (.cells #[.int .i64 6, .int .i64 0, .bool false, .slice none 0 0, .string ⟨#[]⟩, .slice none 0 0, .slice none 0 0] 64))); have HE1 := hide d5; have HG1 := hide d4; have HF1 := hide ((HF0.out.trans F1 (fun _ _ e => e)).alloc (.cells #[.int .i64 6, .int .i64 0, .bool false, .slice none 0 0, .string ⟨#[]⟩, .slice none 0 0, .slice none 0 0] 64)); have x10 := d5.k0; have x11 := d5.k1; have x12 := d5.k2; have x13 := d5.k3; have x14 := d5.k4; have x15 := d5.k5; have x16 := d5.k6; clear F1 hr1 d4 d5)
          | (go_at_call_of 46 (Value.bool true); refine (HMY.out _).mono ?_; rintro e9 w9 ⟨rfl, hw⟩; replace hw := hw.symm; subst hw)
          | (go_at_call_of 46 (Value.bool false); refine (HMN.out _).mono ?_; rintro e9 w9 ⟨rfl, hw⟩; replace hw := hw.symm; subst hw))
        exact ⟨rfl, RQ.mkno HO.out HF8.out⟩
      | true =>
        have HO : Hid (out = some (((6 : Int), (0 : Int), false, [], ⟨#[]⟩, I, R), mb, qb)) := hout.trans (dat_yes hn hfld hfit)
        have HFIT := hide hfit
        clear hr h8 h8m hn hout hD hT hx2 hsf2 h8ma hln2 hqa2 hx3 hsf3 h8mb hln3 hqa3 hfld hfit
        go_enter Try.func77, Try.ntmps77
        go_wp2_with (first
          | (go_at_call 53; have hq : DatQ (fun b => w1.heap.size < b) (w3.setCell ⟨w1.heap.size, 6, none⟩ (.slice ao3 R.length cp3)) (h + 1) ((6 : Int), (0 : Int), false, [], ⟨#[]⟩, I, R) [.int .i64 6, .int .i64 0, .bool false, .slice none 0 0, .string ⟨#[]⟩, .slice ao2 I.length cp2, .slice ao3 R.length cp3] := (by have hs := HS1.out; have he := HE2.out.lt; have a := rowQ_keep HV2.out HW2.out (w' := (w3.setCell ⟨w1.heap.size, 6, none⟩ (.slice ao3 R.length cp3))) (Q' := (fun b => w1.heap.size < b)) (fun k hk hq => (heap_setCell_other _ _ _ _ (by show k ≠ w1.heap.size; simp at hq; omega)).trans ((HVK.out.block k (by simpa [World.setCell] using hk) (by simp at hq; omega)).trans (heap_setCell_other _ _ _ _ (by show k ≠ w1.heap.size; simp at hq; omega)))) (fun k hq => by simp at hq; omega); have b := rowQ_keep HV3.out HW3.out (w' := (w3.setCell ⟨w1.heap.size, 6, none⟩ (.slice ao3 R.length cp3))) (Q' := (fun b => w1.heap.size < b)) (fun k hk hq => heap_setCell_other _ _ _ _ (by show k ≠ w1.heap.size; omega)) (fun k hq => by omega); exact ⟨_, _, _, rfl, by omega, nilSl _, (fun i hi => by cases hi), a.1, b.1, .inl rfl, a.2, b.2⟩); have hfq := fitsQ hq; rw [HFIT.out] at hfq; refine hfq.mono ?_; clear hfq; rintro e8 w8 ⟨rfl, F8⟩; have d5 := HE3.out.fr F8; have d4 := HG3.out.fr F8; have HQ8 := hide (hq.keep (w' := w8) (fun k hk _ => F8.block k hk (fun e => e)) (fun _ _ hq => hq)); have HA8 := hide (HA3.out.mono F8.upw2); have HF8 := hide (HF3.out.trans F8 (fun _ _ e => e.elim)); have x80 := d5.k0; have x81 := d5.k1; have x82 := d5.k2; have x83 := d5.k3; have x84 := d5.k4; have x85 := d5.k5; have x86 := d5.k6; have fz80 := d4.fz 0; have ky80 := d4.k0; have S0 := d4.s0 (.int .i64 6); have fz81 := S0.fz 1; have ky81 := S0.k1; have S1 := S0.s1 (.int .i64 0); have fz82 := S1.fz 2; have ky82 := S1.k2; have S2 := S1.s2 (.bool false); have fz83 := S2.fz 3; have ky83 := S2.k3; have S3 := S2.s3 (.slice none 0 0); have fz84 := S3.fz 4; have ky84 := S3.k4; have S4 := S3.s4 (.string ⟨#[]⟩); have fz85 := S4.fz 5; have ky85 := S4.k5; have S5 := S4.s5 (.slice ao2 I.length cp2); have fz86 := S5.fz 6; have ky86 := S5.k6; have S6 := S5.s6 (.slice ao3 R.length cp3); have kr0 := S6.k0; have kr1 := S6.k1; have kr2 := S6.k2; have kr3 := S6.k3; have kr4 := S6.k4; have kr5 := S6.k5; have kr6 := S6.k6; clear F8 hq d5 d4 S0 S1 S2 S3 S4 S5 S6)
          | (go_at_call 83; refine (K3.out _ HA2.out).mono ?_; rintro e3 w3 ⟨⟨v3, rfl, hv3, hw3, hr3⟩, F3⟩; obtain ⟨ao3, cp3, rfl⟩ := hv3.shape; have d5 := HE2.out.frr F3 (by have := HS1.out; omega); have d4 := HG2.out.frr F3 (by omega); have a5 := hr3; have fz30 := d5.fz 6; have ky30 := d5.k6; have e50 := d5.s6 (.slice ao3 R.length cp3); have d40 := (d4).oo (g := w1.heap.size) (i := 6) (x := .slice ao3 R.length cp3) (by have := HS1.out; omega); have a50 := (a5).setO (g := w1.heap.size) (i := 6) (u := .slice ao3 R.length cp3) (by have := HS1.out; omega); have HF3 : Hid (Fr (fun j => j = rb) w _) := ((HF2.out.trans F3 (fun _ _ e => e)).setCell (g := w1.heap.size) (fun e => by have := HS1.out; omega) 6 (.slice ao3 R.length cp3)); have HE3 := hide e50; have HG3 := hide d40; have HA3 := hide a50; have x30 := e50.k0; have x31 := e50.k1; have x32 := e50.k2; have x33 := e50.k3; have x34 := e50.k4; have x35 := e50.k5; have x36 := e50.k6; have HV3 := hide hv3; have HW3 := hide hw3; have HVK := hide F3; clear F3 hr3 d5 d4 a5 e50 d40 a50 hv3 hw3)
          | (go_at_call 65; refine (K2.out _ HA1.out).mono ?_; rintro e2 w2 ⟨⟨v2, rfl, hv2, hw2, hr2⟩, F2⟩; obtain ⟨ao2, cp2, rfl⟩ := hv2.shape; have d5 := HE1.out.frr F2 (by have := HS1.out; omega); have d4 := HG1.out.frr F2 (by omega); have a5 := hr2; have fz20 := d5.fz 5; have ky20 := d5.k5; have e50 := d5.s5 (.slice ao2 I.length cp2); have d40 := (d4).oo (g := w1.heap.size) (i := 5) (x := .slice ao2 I.length cp2) (by have := HS1.out; omega); have a50 := (a5).setO (g := w1.heap.size) (i := 5) (u := .slice ao2 I.length cp2) (by have := HS1.out; omega); have HF2 : Hid (Fr (fun j => j = rb) w _) := ((HF1.out.trans F2 (fun _ _ e => e)).setCell (g := w1.heap.size) (fun e => by have := HS1.out; omega) 5 (.slice ao2 I.length cp2)); have HE2 := hide e50; have HG2 := hide d40; have HA2 := hide a50; have x20 := e50.k0; have x21 := e50.k1; have x22 := e50.k2; have x23 := e50.k3; have x24 := e50.k4; have x25 := e50.k5; have x26 := e50.k6; have HV2 := hide hv2; have HW2 := hide hw2; clear F2 hr2 d5 d4 a5 e50 d40 a50 hv2 hw2)
          | (go_at_call 60; refine K0.out.mono ?_; rintro e1 w1 ⟨rfl, hr1, F1⟩; have d4 := (HD4.out.frr F1 (by omega)).al (.cells #[.int .i64 6, .int .i64 0, .bool false, .slice none 0 0, .string ⟨#[]⟩, .slice none 0 0, .slice none 0 0] 64); have d5 : DBx (w1.alloc (.cells #[.int .i64 6, .int .i64 0, .bool false, .slice none 0 0, .string ⟨#[]⟩, .slice none 0 0, .slice none 0 0] 64)) w1.heap.size (.int .i64 6) (.int .i64 0) (.bool false) (.slice none 0 0) (.string ⟨#[]⟩) (.slice none 0 0) (.slice none 0 0) := heap_alloc_new w1 _; have HS1 : Hid (w.heap.size < w1.heap.size) := (HD4.out.frr F1 (by omega)).lt; have HA1 := hide (hr1.mono (up_alloc w1 (.cells #[.int .i64 6, .int .i64 0, .bool false, .slice none 0 0, .string ⟨#[]⟩, .slice none 0 0, .slice none 0 0] 64))); have HE1 := hide d5; have HG1 := hide d4; have HF1 := hide ((HF0.out.trans F1 (fun _ _ e => e)).alloc (.cells #[.int .i64 6, .int .i64 0, .bool false, .slice none 0 0, .string ⟨#[]⟩, .slice none 0 0, .slice none 0 0] 64)); have x10 := d5.k0; have x11 := d5.k1; have x12 := d5.k2; have x13 := d5.k3; have x14 := d5.k4; have x15 := d5.k5; have x16 := d5.k6; clear F1 hr1 d4 d5)
          | (go_at_call_of 46 (Value.bool true); refine (HMY.out _).mono ?_; rintro e9 w9 ⟨rfl, hw⟩; replace hw := hw.symm; subst hw))
        refine bodyPost_ret (by simp [results, Try.results77, go_sem, kr0, kr1, kr2, kr3, kr4, kr5, kr6]; rfl) rfl ?_
        have hs1 := HS1.out
        exact RQ.mk' HO.out (set7_fr HF8.out (Nat.le_refl _) _ _ _ _ _ _ _) ⟨_, _, _, _, _, _, _, _, _, _, _, _, _, rfl, HQ8.out.keep (w' := set7 w8 w.heap.size (.int .i64 6) (.int .i64 0) (.bool false) (.slice none 0 0) (.string ⟨#[]⟩) (.slice ao2 I.length cp2) (.slice ao3 R.length cp3)) (fun k hk hq => set7_other (by omega) _ _ _ _ _ _ _) (fun k hk hq => by omega), set7_rs HA8.out hrb _ _ _ _ _ _ _⟩

set_option maxRecDepth 20000 in
set_option maxHeartbeats 4000000 in
theorem datum_7 {h : Nat} (hD : DTOK h) (_hT : RTOKr h) (w0 w : World) (rb p dp : Nat) (l m : List Nat) (hr : RS w0 w rb l p) (h8 : By8 l) (hl : l.length ≤ 100000000) (hp : p ≤ 20000) (hd : dp + 1 ≤ 100) (hh : dp ≤ h) (hn : rdNum l = some (7, m)) :
    Calls Try.prog 77 #[.pointer (some ⟨rb, 0, none⟩), .int .i64 ((dp + 1 : Nat) : Int)] w fun e w' => RQ w rb (okD w0 rb w.heap.size) (rdDat (h + 1) (dp + 1) l p) e w' := by
  obtain ⟨out, hout⟩ : ∃ o, o = rdDat (h + 1) (dp + 1) l p := ⟨_, rfl⟩
  rw [← hout]
  have hrb := hr.lt
  have hlm := rdNum_len hn
  have h8m := rdNum_by8 hn h8
  have hkl := rdNum_le hn
  have hdI : (0 : Int) < ((dp + 1 : Nat) : Int) := by omega
  have edp : ((dp + 1 : Nat) : Int) - 1 = (dp : Int) := by omega
  have HR0 := hide (hr.mono (up_alloc w (.cells #[.int .i64 0, .int .i64 0, .bool false, .slice none 0 0, .string ⟨#[]⟩, .slice none 0 0, .slice none 0 0] 64)))
  have HD4 : Hid (DBx (w.alloc (.cells #[.int .i64 0, .int .i64 0, .bool false, .slice none 0 0, .string ⟨#[]⟩, .slice none 0 0, .slice none 0 0] 64)) w.heap.size (.int .i64 0) (.int .i64 0) (.bool false) (.slice none 0 0) (.string ⟨#[]⟩) (.slice none 0 0) (.slice none 0 0)) := heap_alloc_new w _
  have HF0 : Hid (Fr (fun j => j = rb) w (w.alloc (.cells #[.int .i64 0, .int .i64 0, .bool false, .slice none 0 0, .string ⟨#[]⟩, .slice none 0 0, .slice none 0 0] 64))) := (Fr.refl _ w).alloc _
  have K0 := hide (rdnum_yes HR0.out h8 hn)
  have HMY := hide (fun (W : World) => must_yes W)
  have HMN := hide (fun (W : World) => must_no W)
  cases hx2 : rdDta (rdDat h dp) m p with
  | none =>
    have hfld : rdFld (rdDat h dp) 7 m p = none := by simp [rdFld, hx2]
    have K2 := hide (fun (W : World) (h' : RS w0 W rb m p) => (hD w0 W rb p dp m h' h8m (by omega) (by omega) (by omega) (by omega)).mono (fun _ _ q => q.no hx2))
    have HO : Hid (out = none) := hout.trans (dat_no1 hn hfld)
    clear hr h8 h8m hn hout hD _hT hfld hx2
    go_enter Try.func77, Try.ntmps77
    go_wp2_with (first
      | (go_at_call 65; refine (K2.out _ HA1.out).mono ?_; rintro e2 w2 ⟨rfl, F2⟩; have HF2 := hide (HF1.out.trans F2 (fun _ _ e => e)); clear F2)
      | (go_at_call 60; refine K0.out.mono ?_; rintro e1 w1 ⟨rfl, hr1, F1⟩; have d4 := (HD4.out.frr F1 (by omega)).al (.cells #[.int .i64 7, .int .i64 0, .bool false, .slice none 0 0, .string ⟨#[]⟩, .slice none 0 0, .slice none 0 0] 64); have d5 : DBx (w1.alloc (.cells #[.int .i64 7, .int .i64 0, .bool false, .slice none 0 0, .string ⟨#[]⟩, .slice none 0 0, .slice none 0 0] 64)) w1.heap.size (.int .i64 7) (.int .i64 0) (.bool false) (.slice none 0 0) (.string ⟨#[]⟩) (.slice none 0 0) (.slice none 0 0) := heap_alloc_new w1 _; have HS1 : Hid (w.heap.size < w1.heap.size) := (HD4.out.frr F1 (by omega)).lt; have HA1 := hide (hr1.mono (up_alloc w1 (.cells #[.int .i64 7, .int .i64 0, .bool false, .slice none 0 0, .string ⟨#[]⟩, .slice none 0 0, .slice none 0 0] 64))); have HE1 := hide d5; have HG1 := hide d4; have HF1 := hide ((HF0.out.trans F1 (fun _ _ e => e)).alloc (.cells #[.int .i64 7, .int .i64 0, .bool false, .slice none 0 0, .string ⟨#[]⟩, .slice none 0 0, .slice none 0 0] 64)); have x10 := d5.k0; have x11 := d5.k1; have x12 := d5.k2; have x13 := d5.k3; have x14 := d5.k4; have x15 := d5.k5; have x16 := d5.k6; clear F1 hr1 d4 d5)
      | (go_at_call_of 46 (Value.bool true); refine (HMY.out _).mono ?_; rintro e9 w9 ⟨rfl, hw⟩; replace hw := hw.symm; subst hw))
    exact ⟨rfl, RQ.mkno HO.out HF2.out⟩
  | some y2 =>
    obtain ⟨I, ma, qa⟩ := y2
    have hsf2 := rdDta_suf (rdDat_suf h dp) _ _ _ _ _ hx2
    have h8ma := h8m.suf hsf2.1
    have hln2 := (hsf2.1).length_le
    have hqa2 := hsf2.2
    have K2 := hide (fun (W : World) (h' : RS w0 W rb m p) => (hD w0 W rb p dp m h' h8m (by omega) (by omega) (by omega) (by omega)).mono (fun _ _ q => q.yes hx2))
    have hfld : rdFld (rdDat h dp) 7 m p = some (((7 : Int), (0 : Int), false, [], ⟨#[]⟩, I, []), ma, qa) := by simp [rdFld, hx2] <;> rfl
    cases hfit : fit1 (h := h) ((7 : Int), (0 : Int), false, [], ⟨#[]⟩, I, []) with
    | false =>
      have HO : Hid (out = none) := hout.trans (dat_no2 hn hfld hfit)
      have HFIT := hide hfit
      clear hr h8 h8m hn hout hD _hT hx2 hsf2 h8ma hln2 hqa2 hfld hfit
      go_enter Try.func77, Try.ntmps77
      go_wp2_with (first
        | (go_at_call 53; have hq : DatQ (fun b => w1.heap.size < b) (w2.setCell ⟨w1.heap.size, 5, none⟩ (.slice ao2 I.length cp2)) (h + 1) ((7 : Int), (0 : Int), false, [], ⟨#[]⟩, I, []) [.int .i64 7, .int .i64 0, .bool false, .slice none 0 0, .string ⟨#[]⟩, .slice ao2 I.length cp2, .slice none 0 0] := (by have a := rowQ_keep HV2.out HW2.out (w' := (w2.setCell ⟨w1.heap.size, 5, none⟩ (.slice ao2 I.length cp2))) (Q' := (fun b => w1.heap.size < b)) (fun k hk hq => heap_setCell_other _ _ _ _ (by show k ≠ w1.heap.size; simp at hq; omega)) (fun k hq => by simp at hq; omega); exact ⟨_, _, _, rfl, by omega, nilSl _, (fun i hi => by cases hi), a.1, nilRow _ _, .inl rfl, a.2, .inl rfl⟩); have hfq := fitsQ hq; rw [HFIT.out] at hfq; refine hfq.mono ?_; clear hfq; rintro e8 w8 ⟨rfl, F8⟩; have d5 := HE2.out.fr F8; have d4 := HG2.out.fr F8; have HQ8 := hide (hq.keep (w' := w8) (fun k hk _ => F8.block k hk (fun e => e)) (fun _ _ hq => hq)); have HA8 := hide (HA2.out.mono F8.upw2); have HF8 := hide (HF2.out.trans F8 (fun _ _ e => e.elim)); have x80 := d5.k0; have x81 := d5.k1; have x82 := d5.k2; have x83 := d5.k3; have x84 := d5.k4; have x85 := d5.k5; have x86 := d5.k6; have fz80 := d4.fz 0; have ky80 := d4.k0; have S0 := d4.s0 (.int .i64 7); have fz81 := S0.fz 1; have ky81 := S0.k1; have S1 := S0.s1 (.int .i64 0); have fz82 := S1.fz 2; have ky82 := S1.k2; have S2 := S1.s2 (.bool false); have fz83 := S2.fz 3; have ky83 := S2.k3; have S3 := S2.s3 (.slice none 0 0); have fz84 := S3.fz 4; have ky84 := S3.k4; have S4 := S3.s4 (.string ⟨#[]⟩); have fz85 := S4.fz 5; have ky85 := S4.k5; have S5 := S4.s5 (.slice ao2 I.length cp2); have fz86 := S5.fz 6; have ky86 := S5.k6; have S6 := S5.s6 (.slice none 0 0); have kr0 := S6.k0; have kr1 := S6.k1; have kr2 := S6.k2; have kr3 := S6.k3; have kr4 := S6.k4; have kr5 := S6.k5; have kr6 := S6.k6; clear F8 hq d5 d4 S0 S1 S2 S3 S4 S5 S6)
        | (go_at_call 65; refine (K2.out _ HA1.out).mono ?_; rintro e2 w2 ⟨⟨v2, rfl, hv2, hw2, hr2⟩, F2⟩; obtain ⟨ao2, cp2, rfl⟩ := hv2.shape; have d5 := HE1.out.frr F2 (by have := HS1.out; omega); have d4 := HG1.out.frr F2 (by omega); have a5 := hr2; have fz20 := d5.fz 5; have ky20 := d5.k5; have e50 := d5.s5 (.slice ao2 I.length cp2); have d40 := (d4).oo (g := w1.heap.size) (i := 5) (x := .slice ao2 I.length cp2) (by have := HS1.out; omega); have a50 := (a5).setO (g := w1.heap.size) (i := 5) (u := .slice ao2 I.length cp2) (by have := HS1.out; omega); have HF2 : Hid (Fr (fun j => j = rb) w _) := ((HF1.out.trans F2 (fun _ _ e => e)).setCell (g := w1.heap.size) (fun e => by have := HS1.out; omega) 5 (.slice ao2 I.length cp2)); have HE2 := hide e50; have HG2 := hide d40; have HA2 := hide a50; have x20 := e50.k0; have x21 := e50.k1; have x22 := e50.k2; have x23 := e50.k3; have x24 := e50.k4; have x25 := e50.k5; have x26 := e50.k6; have HV2 := hide hv2; have HW2 := hide hw2; clear F2 hr2 d5 d4 a5 e50 d40 a50 hv2 hw2)
        | (go_at_call 60; refine K0.out.mono ?_; rintro e1 w1 ⟨rfl, hr1, F1⟩; have d4 := (HD4.out.frr F1 (by omega)).al (.cells #[.int .i64 7, .int .i64 0, .bool false, .slice none 0 0, .string ⟨#[]⟩, .slice none 0 0, .slice none 0 0] 64); have d5 : DBx (w1.alloc (.cells #[.int .i64 7, .int .i64 0, .bool false, .slice none 0 0, .string ⟨#[]⟩, .slice none 0 0, .slice none 0 0] 64)) w1.heap.size (.int .i64 7) (.int .i64 0) (.bool false) (.slice none 0 0) (.string ⟨#[]⟩) (.slice none 0 0) (.slice none 0 0) := heap_alloc_new w1 _; have HS1 : Hid (w.heap.size < w1.heap.size) := (HD4.out.frr F1 (by omega)).lt; have HA1 := hide (hr1.mono (up_alloc w1 (.cells #[.int .i64 7, .int .i64 0, .bool false, .slice none 0 0, .string ⟨#[]⟩, .slice none 0 0, .slice none 0 0] 64))); have HE1 := hide d5; have HG1 := hide d4; have HF1 := hide ((HF0.out.trans F1 (fun _ _ e => e)).alloc (.cells #[.int .i64 7, .int .i64 0, .bool false, .slice none 0 0, .string ⟨#[]⟩, .slice none 0 0, .slice none 0 0] 64)); have x10 := d5.k0; have x11 := d5.k1; have x12 := d5.k2; have x13 := d5.k3; have x14 := d5.k4; have x15 := d5.k5; have x16 := d5.k6; clear F1 hr1 d4 d5)
        | (go_at_call_of 46 (Value.bool true); refine (HMY.out _).mono ?_; rintro e9 w9 ⟨rfl, hw⟩; replace hw := hw.symm; subst hw)
        | (go_at_call_of 46 (Value.bool false); refine (HMN.out _).mono ?_; rintro e9 w9 ⟨rfl, hw⟩; replace hw := hw.symm; subst hw))
      exact ⟨rfl, RQ.mkno HO.out HF8.out⟩
    | true =>
      have HO : Hid (out = some (((7 : Int), (0 : Int), false, [], ⟨#[]⟩, I, []), ma, qa)) := hout.trans (dat_yes hn hfld hfit)
      have HFIT := hide hfit
      clear hr h8 h8m hn hout hD _hT hx2 hsf2 h8ma hln2 hqa2 hfld hfit
      go_enter Try.func77, Try.ntmps77
      go_wp2_with (first
        | (go_at_call 53; have hq : DatQ (fun b => w1.heap.size < b) (w2.setCell ⟨w1.heap.size, 5, none⟩ (.slice ao2 I.length cp2)) (h + 1) ((7 : Int), (0 : Int), false, [], ⟨#[]⟩, I, []) [.int .i64 7, .int .i64 0, .bool false, .slice none 0 0, .string ⟨#[]⟩, .slice ao2 I.length cp2, .slice none 0 0] := (by have a := rowQ_keep HV2.out HW2.out (w' := (w2.setCell ⟨w1.heap.size, 5, none⟩ (.slice ao2 I.length cp2))) (Q' := (fun b => w1.heap.size < b)) (fun k hk hq => heap_setCell_other _ _ _ _ (by show k ≠ w1.heap.size; simp at hq; omega)) (fun k hq => by simp at hq; omega); exact ⟨_, _, _, rfl, by omega, nilSl _, (fun i hi => by cases hi), a.1, nilRow _ _, .inl rfl, a.2, .inl rfl⟩); have hfq := fitsQ hq; rw [HFIT.out] at hfq; refine hfq.mono ?_; clear hfq; rintro e8 w8 ⟨rfl, F8⟩; have d5 := HE2.out.fr F8; have d4 := HG2.out.fr F8; have HQ8 := hide (hq.keep (w' := w8) (fun k hk _ => F8.block k hk (fun e => e)) (fun _ _ hq => hq)); have HA8 := hide (HA2.out.mono F8.upw2); have HF8 := hide (HF2.out.trans F8 (fun _ _ e => e.elim)); have x80 := d5.k0; have x81 := d5.k1; have x82 := d5.k2; have x83 := d5.k3; have x84 := d5.k4; have x85 := d5.k5; have x86 := d5.k6; have fz80 := d4.fz 0; have ky80 := d4.k0; have S0 := d4.s0 (.int .i64 7); have fz81 := S0.fz 1; have ky81 := S0.k1; have S1 := S0.s1 (.int .i64 0); have fz82 := S1.fz 2; have ky82 := S1.k2; have S2 := S1.s2 (.bool false); have fz83 := S2.fz 3; have ky83 := S2.k3; have S3 := S2.s3 (.slice none 0 0); have fz84 := S3.fz 4; have ky84 := S3.k4; have S4 := S3.s4 (.string ⟨#[]⟩); have fz85 := S4.fz 5; have ky85 := S4.k5; have S5 := S4.s5 (.slice ao2 I.length cp2); have fz86 := S5.fz 6; have ky86 := S5.k6; have S6 := S5.s6 (.slice none 0 0); have kr0 := S6.k0; have kr1 := S6.k1; have kr2 := S6.k2; have kr3 := S6.k3; have kr4 := S6.k4; have kr5 := S6.k5; have kr6 := S6.k6; clear F8 hq d5 d4 S0 S1 S2 S3 S4 S5 S6)
        | (go_at_call 65; refine (K2.out _ HA1.out).mono ?_; rintro e2 w2 ⟨⟨v2, rfl, hv2, hw2, hr2⟩, F2⟩; obtain ⟨ao2, cp2, rfl⟩ := hv2.shape; have d5 := HE1.out.frr F2 (by have := HS1.out; omega); have d4 := HG1.out.frr F2 (by omega); have a5 := hr2; have fz20 := d5.fz 5; have ky20 := d5.k5; have e50 := d5.s5 (.slice ao2 I.length cp2); have d40 := (d4).oo (g := w1.heap.size) (i := 5) (x := .slice ao2 I.length cp2) (by have := HS1.out; omega); have a50 := (a5).setO (g := w1.heap.size) (i := 5) (u := .slice ao2 I.length cp2) (by have := HS1.out; omega); have HF2 : Hid (Fr (fun j => j = rb) w _) := ((HF1.out.trans F2 (fun _ _ e => e)).setCell (g := w1.heap.size) (fun e => by have := HS1.out; omega) 5 (.slice ao2 I.length cp2)); have HE2 := hide e50; have HG2 := hide d40; have HA2 := hide a50; have x20 := e50.k0; have x21 := e50.k1; have x22 := e50.k2; have x23 := e50.k3; have x24 := e50.k4; have x25 := e50.k5; have x26 := e50.k6; have HV2 := hide hv2; have HW2 := hide hw2; clear F2 hr2 d5 d4 a5 e50 d40 a50 hv2 hw2)
        | (go_at_call 60; refine K0.out.mono ?_; rintro e1 w1 ⟨rfl, hr1, F1⟩; have d4 := (HD4.out.frr F1 (by omega)).al (.cells #[.int .i64 7, .int .i64 0, .bool false, .slice none 0 0, .string ⟨#[]⟩, .slice none 0 0, .slice none 0 0] 64); have d5 : DBx (w1.alloc (.cells #[.int .i64 7, .int .i64 0, .bool false, .slice none 0 0, .string ⟨#[]⟩, .slice none 0 0, .slice none 0 0] 64)) w1.heap.size (.int .i64 7) (.int .i64 0) (.bool false) (.slice none 0 0) (.string ⟨#[]⟩) (.slice none 0 0) (.slice none 0 0) := heap_alloc_new w1 _; have HS1 : Hid (w.heap.size < w1.heap.size) := (HD4.out.frr F1 (by omega)).lt; have HA1 := hide (hr1.mono (up_alloc w1 (.cells #[.int .i64 7, .int .i64 0, .bool false, .slice none 0 0, .string ⟨#[]⟩, .slice none 0 0, .slice none 0 0] 64))); have HE1 := hide d5; have HG1 := hide d4; have HF1 := hide ((HF0.out.trans F1 (fun _ _ e => e)).alloc (.cells #[.int .i64 7, .int .i64 0, .bool false, .slice none 0 0, .string ⟨#[]⟩, .slice none 0 0, .slice none 0 0] 64)); have x10 := d5.k0; have x11 := d5.k1; have x12 := d5.k2; have x13 := d5.k3; have x14 := d5.k4; have x15 := d5.k5; have x16 := d5.k6; clear F1 hr1 d4 d5)
        | (go_at_call_of 46 (Value.bool true); refine (HMY.out _).mono ?_; rintro e9 w9 ⟨rfl, hw⟩; replace hw := hw.symm; subst hw))
      refine bodyPost_ret (by simp [results, Try.results77, go_sem, kr0, kr1, kr2, kr3, kr4, kr5, kr6]; rfl) rfl ?_
      have hs1 := HS1.out
      exact RQ.mk' HO.out (set7_fr HF8.out (Nat.le_refl _) _ _ _ _ _ _ _) ⟨_, _, _, _, _, _, _, _, _, _, _, _, _, rfl, HQ8.out.keep (w' := set7 w8 w.heap.size (.int .i64 7) (.int .i64 0) (.bool false) (.slice none 0 0) (.string ⟨#[]⟩) (.slice ao2 I.length cp2) (.slice none 0 0)) (fun k hk hq => set7_other (by omega) _ _ _ _ _ _ _) (fun k hk hq => by omega), set7_rs HA8.out hrb _ _ _ _ _ _ _⟩

end Go.Proofs.Ytilcigjhogcjkaa
