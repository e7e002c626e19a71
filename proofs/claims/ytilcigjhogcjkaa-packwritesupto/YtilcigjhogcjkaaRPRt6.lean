/-
  What is proved here: tandemref10's right of any datum.
-/
import Derived.Test.YtilcigjhogcjkaaRPRt4
import Derived.Test.YtilcigjhogcjkaaRPRt5
namespace Go.Proofs.Ytilcigjhogcjkaa
open Go Go.RowKit

theorem LF.no {w w' : World} {cb c s : Nat} {r : Bool} (hr : r = false) (F : Fr (fun k => k = cb) w w') : LF w cb c s r (.returned (.bool false)) w' := by
  subst hr
  exact ⟨rfl, (fun e => by cases e), F⟩
theorem LF.plain {w w' : World} {cb c s : Nat} {r x : Bool} (hr : x = r) (hs : r = true → s = 1) (hL : LAt w' cb c) (F : Fr (fun k => k = cb) w w') : LF w cb (c + 1) s r (.returned (.bool x)) w' := by
  subst hr
  exact ⟨rfl, (fun e => by rw [hs e]; exact hL), F⟩
theorem LF.as {w w' : World} {cb c s s' : Nat} {r r' : Bool} {e : Ending} (h : LF w cb c s r e w') (hr : r = r') (hs : s = s') : LF w cb c s' r' e w' := by
  subst hr hs
  exact h
theorem rt_LAt {w : World} {cb c0 : Nat} (c : Nat) (kk n : Int) (b : Bool) (t : ByteArray) (um ui ur : Value) (hL : LAt w cb c0) : LAt (rtW w cb c kk n b t um ui ur) cb c := (hL.alloc _).set c
theorem pts_pos {h : Nat} (d : Tr (h + 1)) : 1 ≤ ptsD (h + 1) d := by unfold ptsD; omega
theorem all_len0 {α : Type} {f : α → Bool} {l : List α} (h : l.length = 0) : l.all f = true := by rw [List.length_eq_zero_iff.1 h]; rfl
theorem map_len0 {α : Type} {f : α → Nat} {l : List α} (h : l.length = 0) : (l.map f).sum = 0 := by rw [List.length_eq_zero_iff.1 h]; rfl
theorem restF_plain {h : Nat} {k : Int} {n : Nat} {R : List (Tr h)} (hk : k ≠ 6) : restF k n R = decide (R.length = 0) := by
  match R with
  | [] => rfl
  | [_] => simp [restF, hk]
  | _ :: _ :: _ => simp [restF]
theorem restF_six {h : Nat} {n : Nat} {R : List (Tr h)} (hn : n = 0) : restF 6 n R = decide (R.length = 0) := by
  match R with
  | [] => rfl
  | [_] => simp [restF, hn]
  | _ :: _ :: _ => simp [restF]
theorem dat_len1 {h : Nat} (n : Int) (b : Bool) (L : List Nat) (t : ByteArray) (I R : List (Tr h)) : L.length ≤ (datB (h + 1) (1, n, b, L, t, I, R)).length := by
  have hE : datB (h + 1) (1, n, b, L, t, I, R) = ((numB 1 ++ flgB b) ++ numB L.length) ++ L.flatMap numB := by
    simp [datB, List.append_assoc]
  have := len_flat_num L
  rw [hE]
  simp only [List.length_append]
  omega
theorem dat_len6 {h : Nat} (n : Int) (b : Bool) (L : List Nat) (t : ByteArray) (I R : List (Tr h)) {d : Tr h} (hd : d ∈ I ∨ d ∈ R) : (datB h d).length ≤ (datB (h + 1) (6, n, b, L, t, I, R)).length := by
  have hE : datB (h + 1) (6, n, b, L, t, I, R) = numB 6 ++ (numB I.length ++ I.flatMap (datB h) ++ flgB (!R.isEmpty) ++ R.flatMap (datB h)) := by
    simp [datB]
  rw [hE]
  simp only [List.length_append]
  rcases hd with hd | hd
  · have := flat_mem_le (datB h) hd
    omega
  · have := flat_mem_le (datB h) hd
    omega
theorem dat_len7 {h : Nat} (n : Int) (b : Bool) (L : List Nat) (t : ByteArray) (I R : List (Tr h)) {d : Tr h} (hd : d ∈ I) : (datB h d).length ≤ (datB (h + 1) (7, n, b, L, t, I, R)).length := by
  have hE : datB (h + 1) (7, n, b, L, t, I, R) = numB 7 ++ (numB I.length ++ I.flatMap (datB h)) := by
    simp [datB]
  have := flat_mem_le (datB h) hd
  rw [hE]
  simp only [List.length_append]
  omega
/-- Nothing but itself. -/
theorem leaf_eq {h : Nat} (dp c : Nat) (kk n : Int) (b : Bool) (L : List Nat) (t : ByteArray) (I R : List (Tr h)) (x : Bool) (hx : fit1 (h := h) (kk, n, b, L, t, I, R) = x) (h0 : x = true → I.length = 0 ∧ R.length = 0) :
    x = (goodD (h + 1) (dp + 1) (kk, n, b, L, t, I, R) && decide (ptsD (h + 1) (kk, n, b, L, t, I, R) ≤ c + 1)) ∧ ((goodD (h + 1) (dp + 1) (kk, n, b, L, t, I, R) && decide (ptsD (h + 1) (kk, n, b, L, t, I, R) ≤ c + 1)) = true → ptsD (h + 1) (kk, n, b, L, t, I, R) = 1) := by
  have hg : goodD (h + 1) (dp + 1) (kk, n, b, L, t, I, R) = (x && (I.all (goodD h dp) && R.all (goodD h dp))) := by rw [← hx]; rfl
  have hp : ptsD (h + 1) (kk, n, b, L, t, I, R) = 1 + (I.map (ptsD h)).sum + (R.map (ptsD h)).sum := rfl
  rw [hg, hp]
  cases x with
  | false => simp
  | true =>
    obtain ⟨h1, h2⟩ := h0 rfl
    rw [all_len0 h1, all_len0 h2, map_len0 h1, map_len0 h2]
    simp

theorem right_of {h : Nat} (hC : RTOK h) : RTOK (h + 1) := by
  intro w0 w cb c d c0 c1 c2 c3 c4 c5 c6 k hd hU hcb hL hc hk1 hk2 hlen
  obtain ⟨kk, n, b, L, t, I, R⟩ := d
  obtain ⟨um, ui, ur, e, -, hM, hlim, hI, hR⟩ := hd
  obtain ⟨a1, p1, rfl, r1⟩ := hM
  obtain ⟨a2, p2, rfl⟩ := hI.shape
  obtain ⟨a3, p3, rfl⟩ := hR.shape
  cases e
  have hMS : Sl .u32 w0 (.slice a1 L.length p1) L.length (fun i => L.getD i 0) := ⟨a1, p1, rfl, r1⟩
  cases c with
  | zero =>
    refine (right_c0 w cb k kk n b t _ _ _ hL).mono ?_
    rintro e w' ⟨rfl, F⟩
    exact LF.no (by rw [decide_eq_false (by have := pts_pos (h := h) (kk, n, b, L, t, I, R); omega), Bool.and_false]) F
  | succ c =>
    by_cases hk : k ≤ 100
    · obtain ⟨dp, hdp⟩ : ∃ dp, dp + k = 100 := ⟨100 - k, by omega⟩
      rw [show 101 - k = dp + 1 by omega]
      have hc' : c < 20000 := by omega
      cases hn : half n with
      | false =>
        refine (right_half w cb c k kk n b t _ _ _ hL hc' hk hn).mono ?_
        rintro e w' ⟨rfl, F⟩
        exact LF.no (by simp [goodD, fit1, hn]) F
      | true =>
        by_cases hkk : 1 ≤ kk ∧ kk ≤ 9
        · have hk9 : kk = 1 ∨ kk = 2 ∨ kk = 3 ∨ kk = 4 ∨ kk = 5 ∨ kk = 6 ∨ kk = 7 ∨ kk = 8 ∨ kk = 9 := by omega
          clear hkk
          rcases hk9 with rfl | rfl | rfl | rfl | rfl | rfl | rfl | rfl | rfl
          · have hLl : L.length ≤ 900000000 := Nat.le_trans (dat_len1 n b L t I R) hlen
            refine (right_1 w0 w cb c k n b L t a1 a2 a3 I.length R.length p1 p2 p3 hL hc' hk hn hMS hlim hU hcb hLl).mono ?_
            rintro e w' ⟨rfl, hl', F⟩
            have hl := leaf_eq dp c 1 n b L t I R (canB b L && (decide (n = 0) && (decide (t.size = 0) && (decide (I.length = 0) && decide (R.length = 0))))) (by simp only [fit1, hn, restF_plain (show (1 : Int) ≠ 6 by decide)]; simp [Bool.and_comm, Bool.and_left_comm, Bool.and_assoc]) (fun e => by simp at e; simp [e])
            exact LF.plain hl.1 hl.2 hl' F
          · refine (right_2 w cb c k n b t a1 a2 a3 L.length I.length R.length p1 p2 p3 hL hc' hk hn).mono ?_
            rintro e w' ⟨rfl, rfl⟩
            have hl := leaf_eq dp c 2 n b L t I R (decide (L.length = 0) && (!b && (decide (t.size = 0) && (decide (I.length = 0) && decide (R.length = 0))))) (by simp only [fit1, hn, restF_plain (show (2 : Int) ≠ 6 by decide), canB]; by_cases h1 : L.length = 0 <;> simp [h1] <;> cases b <;> simp [Bool.and_assoc]) (fun e => by simp at e; simp [e])
            exact LF.plain hl.1 hl.2 (rt_LAt c 2 n b t _ _ _ hL) (rt_fr w cb c 2 n b t _ _ _)
          · refine (right_3 w cb c k n b t a1 a2 a3 L.length I.length R.length p1 p2 p3 hL hc' hk hn).mono ?_
            rintro e w' ⟨rfl, rfl⟩
            have hl := leaf_eq dp c 3 n b L t I R (decide (L.length = 0) && (!b && (decide (t.size = 0) && (decide (I.length = 0) && decide (R.length = 0))))) (by simp only [fit1, hn, restF_plain (show (3 : Int) ≠ 6 by decide), canB]; by_cases h1 : L.length = 0 <;> simp [h1] <;> cases b <;> simp [Bool.and_assoc]) (fun e => by simp at e; simp [e])
            exact LF.plain hl.1 hl.2 (rt_LAt c 3 n b t _ _ _ hL) (rt_fr w cb c 3 n b t _ _ _)
          · refine (right_4 w cb c k n b t a1 a2 a3 L.length I.length R.length p1 p2 p3 hL hc' hk hn).mono ?_
            rintro e w' ⟨rfl, rfl⟩
            have hl := leaf_eq dp c 4 n b L t I R (decide (L.length = 0) && (!b && (decide (n = 0) && (decide (I.length = 0) && decide (R.length = 0))))) (by simp only [fit1, hn, restF_plain (show (4 : Int) ≠ 6 by decide), canB]; by_cases h1 : L.length = 0 <;> simp [h1] <;> cases b <;> simp [Bool.and_comm]) (fun e => by simp at e; simp [e])
            exact LF.plain hl.1 hl.2 (rt_LAt c 4 n b t _ _ _ hL) (rt_fr w cb c 4 n b t _ _ _)
          · refine (right_5 w cb c k n b t a1 a2 a3 L.length I.length R.length p1 p2 p3 hL hc' hk hn).mono ?_
            rintro e w' ⟨rfl, rfl⟩
            have hl := leaf_eq dp c 5 n b L t I R (decide (L.length = 0) && (!b && (decide (I.length = 0) && decide (R.length = 0)))) (by simp only [fit1, hn, restF_plain (show (5 : Int) ≠ 6 by decide), canB]; by_cases h1 : L.length = 0 <;> simp [h1] <;> cases b <;> simp ) (fun e => by simp at e; simp [e])
            exact LF.plain hl.1 hl.2 (rt_LAt c 5 n b t _ _ _ hL) (rt_fr w cb c 5 n b t _ _ _)
          · have hdI : ∀ d, d ∈ I → (datB h d).length ≤ 900000000 := fun d hd => Nat.le_trans (dat_len6 n b L t I R (.inl hd)) hlen
            by_cases hw : L.length = 0 ∧ b = false ∧ n = 0 ∧ t.size = 0
            · obtain ⟨w1, rfl, rfl, w4⟩ := hw
              have ht : t.toList = [] := by
                rw [ByteArray.toList_eq, ← List.length_eq_zero_iff, Array.length_toList]
                exact w4
              have hL0 : L = [] := List.length_eq_zero_iff.1 w1
              subst hL0
              have hfit : fit1 (h := h) (6, 0, false, [], t, I, R) = restF 6 I.length R := by simp [fit1, canB, w4, half]
              have hgd : goodD (h + 1) (dp + 1) (6, 0, false, [], t, I, R) = (restF 6 I.length R && (I.all (goodD h dp) && R.all (goodD h dp))) := by rw [← hfit]; rfl
              have hpt : ptsD (h + 1) (6, 0, false, [], t, I, R) = 1 + ptsA h I + (R.map (ptsD h)).sum := rfl
              match R, hR, hgd, hpt with
              | [], hR, hgd, hpt =>
                refine (right_6i hC w0 w cb c k dp t I a1 a2 a3 p1 p2 p3 hL hc' hk hdp hk1 hU hcb hI ht hdI).mono ?_
                intro e w' hh
                refine hh.as ?_ ?_
                · rw [hgd, hpt]
                  simp only [restF, List.all_nil, Bool.and_true, Bool.true_and, List.map_nil, List.sum_nil]
                  congr 1
                  exact decide_eq_decide.2 ⟨fun _ => by omega, fun _ => by omega⟩
                · rw [hpt]; simp
              | x :: R', hR, hgd, hpt =>
                by_cases hI0 : I.length = 0
                · have hIe : I = [] := List.length_eq_zero_iff.1 hI0
                  have hrf : restF 6 I.length (x :: R') = false := by rw [restF_six hI0]; simp
                  rw [hrf, Bool.false_and] at hgd
                  subst hIe
                  refine (right_6e w cb c k t (x :: R').length a1 a2 a3 p1 p2 p3 hL hc' hk ht (by simp)).mono ?_
                  rintro e w' ⟨rfl, rfl⟩
                  exact LF.no (by rw [hgd, Bool.false_and]) (rt_fr w cb c 6 0 false t _ _ _)
                · match R', hR, hgd, hpt with
                  | y :: R'', hR, hgd, hpt =>
                    refine (right_6m w cb c k t I.length (x :: y :: R'').length a1 a2 a3 p1 p2 p3 hL hc' hk ht (by omega) (by simp)).mono ?_
                    rintro e w' ⟨rfl, rfl⟩
                    exact LF.no (by rw [hgd]; simp [restF]) (rt_fr w cb c 6 0 false t _ _ _)
                  | [], hR, hgd, hpt =>
                    obtain ⟨g3, off3, rfl, kk3, km3, kb3, um3, kt3, ui3, ur3, hdat3, ⟨x31, x32, x33, rfl⟩, ⟨z31, z32, z33, rfl⟩, ⟨t31, t32, t33, rfl⟩, e30, e31, e32, e33, e34, e35, e36⟩ := row_cells hR (Up.refl w0) (i := 0) (by simp)
                    simp only [Nat.zero_mul, Nat.add_zero] at e30 e31 e32 e33 e34 e35 e36
                    have hgb : g3 < w0.heap.size := World.block_lt_of_cell? w0 _ e30
                    have hdat3' : DatC w0 h x [.int .i64 kk3, .int .i64 km3, .bool kb3, .slice x31 x32 x33, .string kt3, .slice z31 z32 z33, .slice t31 t32 t33] := hdat3
                    have hkx : kdT h x = kk3 := by
                      cases h with
                      | zero => exact hdat3'.elim
                      | succ h =>
                        obtain ⟨k', n', b', L', t', I', R'⟩ := x
                        obtain ⟨_, _, _, e, -⟩ := hdat3'
                        injection e with e
                        injection e with _ e
                        exact e.symm
                    have hg3 : g3 ≠ cb := by omega
                    by_cases hk6 : kk3 = 6
                    · subst hk6
                      refine (right_6l w cb c k t I.length g3 off3 a1 a2 p1 p2 p3 hL hc' hk ht (by omega) ((hU.cell (p := ⟨g3, off3, none⟩) hgb).trans e30) hg3).mono ?_
                      rintro e w' ⟨rfl, rfl⟩
                      exact LF.no (by rw [hgd]; simp [restF, hkx]) (rt_fr w cb c 6 0 false t _ _ _)
                    · have hdx : (datB h x).length ≤ 900000000 := Nat.le_trans (dat_len6 0 false [] t I [x] (.inr (List.mem_cons_self ..))) hlen
                      refine (right_6x hC w0 w cb c k dp t I x g3 off3 kk3 km3 kb3 kt3 x31 z31 t31 x32 x33 z32 z33 t32 t33 a1 a2 p1 p2 p3 hL hc' hk hdp hk1 hU hcb hI ht hdI (by omega) hk6 hdx hdat3' (fun W u => ?_)).mono ?_
                      · exact ⟨(u.cell (p := ⟨g3, off3, none⟩) hgb).trans e30, (u.cell (p := ⟨g3, off3 + 1, none⟩) hgb).trans e31, (u.cell (p := ⟨g3, off3 + 2, none⟩) hgb).trans e32, (u.cell (p := ⟨g3, off3 + 3, none⟩) hgb).trans e33, (u.cell (p := ⟨g3, off3 + 4, none⟩) hgb).trans e34, (u.cell (p := ⟨g3, off3 + 5, none⟩) hgb).trans e35, (u.cell (p := ⟨g3, off3 + 6, none⟩) hgb).trans e36⟩
                      · intro e w' hh
                        refine hh.as ?_ ?_
                        · rw [hgd, hpt]
                          have : restF 6 I.length [x] = true := by simp [restF, hkx, hk6]; omega
                          rw [this]
                          simp only [List.all_cons, List.all_nil, Bool.and_true, Bool.true_and, List.map_cons, List.map_nil, List.sum_cons, List.sum_nil, Nat.add_zero, Bool.and_assoc]
                          congr 2
                          exact decide_eq_decide.2 ⟨fun _ => by omega, fun _ => by omega⟩
                        · rw [hpt]; simp; omega
            · refine (right_6h w cb c k n b t L.length I.length R.length a1 a2 a3 p1 p2 p3 hL hc' hk hn hw).mono ?_
              rintro e w' ⟨rfl, rfl⟩
              refine LF.no ?_ (rt_fr w cb c 6 n b t _ _ _)
              have : fit1 (h := h) (6, n, b, L, t, I, R) = false := by
                rw [← Bool.not_eq_true]
                intro hf
                apply hw
                simp only [fit1, Bool.and_eq_true, Bool.or_eq_true, decide_eq_true_eq] at hf
                obtain ⟨-, ⟨-, hN⟩, ⟨⟨⟨hcb', hl⟩, ht⟩, -⟩, -⟩ := hf
                have h1 : L.length = 0 := by omega
                unfold canB at hcb'
                rw [if_pos h1] at hcb'
                exact ⟨h1, by simpa using hcb', by omega, by omega⟩
              simp only [goodD, this, Bool.false_and]
          · have hdI : ∀ d, d ∈ I → (datB h d).length ≤ 900000000 := fun d hd => Nat.le_trans (dat_len7 n b L t I R hd) hlen
            by_cases hw : L.length = 0 ∧ b = false ∧ n = 0 ∧ t.size = 0
            · obtain ⟨w1, rfl, rfl, w4⟩ := hw
              have ht : t.toList = [] := by
                rw [ByteArray.toList_eq, ← List.length_eq_zero_iff, Array.length_toList]
                exact w4
              have hL0 : L = [] := List.length_eq_zero_iff.1 w1
              subst hL0
              have hfit : fit1 (h := h) (7, 0, false, [], t, I, R) = restF 7 I.length R := by simp [fit1, canB, w4, half]
              have hgd : goodD (h + 1) (dp + 1) (7, 0, false, [], t, I, R) = (restF 7 I.length R && (I.all (goodD h dp) && R.all (goodD h dp))) := by rw [← hfit]; rfl
              have hpt : ptsD (h + 1) (7, 0, false, [], t, I, R) = 1 + ptsA h I + (R.map (ptsD h)).sum := rfl
              match R, hR, hgd, hpt with
              | [], hR, hgd, hpt =>
                refine (right_7i hC w0 w cb c k dp t I a1 a2 a3 p1 p2 p3 hL hc' hk hdp hk1 hU hcb hI ht hdI).mono ?_
                intro e w' hh
                refine hh.as ?_ ?_
                · rw [hgd, hpt]
                  simp only [restF, List.all_nil, Bool.and_true, Bool.true_and, List.map_nil, List.sum_nil]
                  congr 1
                  exact decide_eq_decide.2 ⟨fun _ => by omega, fun _ => by omega⟩
                · rw [hpt]; simp
              | x :: R', hR, hgd, hpt =>
                refine (right_7r w cb c k t I.length (x :: R').length a1 a2 a3 p1 p2 p3 hL hc' hk ht (by simp)).mono ?_
                rintro e w' ⟨rfl, rfl⟩
                exact LF.no (by rw [hgd, restF_plain (by decide)]; simp) (rt_fr w cb c 7 0 false t _ _ _)
            · refine (right_7h w cb c k n b t L.length I.length R.length a1 a2 a3 p1 p2 p3 hL hc' hk hn hw).mono ?_
              rintro e w' ⟨rfl, rfl⟩
              refine LF.no ?_ (rt_fr w cb c 7 n b t _ _ _)
              have : fit1 (h := h) (7, n, b, L, t, I, R) = false := by
                rw [← Bool.not_eq_true]
                intro hf
                apply hw
                simp only [fit1, Bool.and_eq_true, Bool.or_eq_true, decide_eq_true_eq] at hf
                obtain ⟨-, ⟨-, hN⟩, ⟨⟨⟨hcb', hl⟩, ht⟩, -⟩, -⟩ := hf
                have h1 : L.length = 0 := by omega
                unfold canB at hcb'
                rw [if_pos h1] at hcb'
                exact ⟨h1, by simpa using hcb', by omega, by omega⟩
              simp only [goodD, this, Bool.false_and]
          · refine (right_8 w cb c k n b t a1 a2 a3 L.length I.length R.length p1 p2 p3 hL hc' hk hn).mono ?_
            rintro e w' ⟨rfl, rfl⟩
            have hl := leaf_eq dp c 8 n b L t I R (decide (L.length = 0) && (!b && (decide (n = 0) && (decide (t.size = 0) && (decide (I.length = 0) && decide (R.length = 0)))))) (by simp only [fit1, hn, restF_plain (show (8 : Int) ≠ 6 by decide), canB]; by_cases h1 : L.length = 0 <;> simp [h1] <;> cases b <;> simp [Bool.and_comm, Bool.and_left_comm, Bool.and_assoc]) (fun e => by simp at e; simp [e])
            exact LF.plain hl.1 hl.2 (rt_LAt c 8 n b t _ _ _ hL) (rt_fr w cb c 8 n b t _ _ _)
          · refine (right_9 w cb c k n b t a1 a2 a3 L.length I.length R.length p1 p2 p3 hL hc' hk hn).mono ?_
            rintro e w' ⟨rfl, rfl⟩
            have hl := leaf_eq dp c 9 n b L t I R (decide (L.length = 0) && (!b && (decide (t.size = 0) && (decide (I.length = 0) && decide (R.length = 0))))) (by simp only [fit1, hn, restF_plain (show (9 : Int) ≠ 6 by decide), canB]; by_cases h1 : L.length = 0 <;> simp [h1] <;> cases b <;> simp [Bool.and_assoc]) (fun e => by simp at e; simp [e])
            exact LF.plain hl.1 hl.2 (rt_LAt c 9 n b t _ _ _ hL) (rt_fr w cb c 9 n b t _ _ _)
        · refine (right_no w cb c k kk n b t a1 a2 a3 L.length I.length R.length p1 p2 p3 hL hc' hk hn hkk).mono ?_
          rintro e w' ⟨rfl, rfl⟩
          refine LF.no ?_ (rt_fr w cb c kk n b t _ _ _)
          have : (decide (1 ≤ kk) && decide (kk ≤ 9)) = false := by
            rw [← Bool.not_eq_true, Bool.and_eq_true, decide_eq_true_eq, decide_eq_true_eq]
            exact hkk
          simp only [goodD, fit1, this, Bool.false_and]
    · refine (right_k w cb c k kk n b t _ _ _ hL (by omega) (by omega) hk2).mono ?_
      rintro e w' ⟨rfl, F⟩
      rw [show 101 - k = 0 by omega]
      exact LF.no rfl F
theorem right_all : (h : Nat) → RTOK h
  | 0 => fun _ _ _ _ _ _ _ _ _ _ _ _ _ hd => hd.elim
  | h + 1 => right_of (right_all h)

end Go.Proofs.Ytilcigjhogcjkaa
