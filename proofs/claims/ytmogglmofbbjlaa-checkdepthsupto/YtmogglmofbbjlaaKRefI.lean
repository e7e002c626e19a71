/-
  What is proved here: the document's answers on a whole program (tandemref11.Program, Depths), for any protos.
-/
import Derived.Test.YtmogglmofbbjlaaKRefH
import Derived.Test.YtmogglmofbbjlaaKProg
namespace Go.Proofs.Ytmogglmofbbjlaa
open Go Go.RowKit

theorem isIn_shift (n : Nat) : isIn ((n : Int) - 1) 0 65535 = isIn n 1 65536 := by
  unfold isIn
  rw [Bool.eq_iff_iff]
  simp
  omega
theorem head_fit {n : Nat} {p : PR} (h : headM n p = true) : 0 ≤ p.args ∧ p.args ≤ 64 ∧ 1 ≤ p.len ∧ p.len ≤ 65536 := by
  simp [headM, isIn] at h
  omega
theorem ProtosAt.sB {w : World} {so : Option Addr} {np : Nat} {P : Nat → PR} {Q : Nat → Hd} (h : ProtosAt w so np P Q) (h0 : 0 < np) : ∀ g, so.map (·.block) = some g → g < w.heap.size := fun g hg => by
  rcases h with e | ⟨g', off, e, h⟩
  · omega
  · rw [e] at hg
    cases hg
    exact (h 0 h0).1.lt
theorem CodeAt.kB {w : World} {co : Option Addr} {p : PR} (h : CodeAt w co p) (h0 : 1 ≤ p.len) : ∀ g, co.map (·.block) = some g → g < w.heap.size := fun g hg => by
  rcases h with e | ⟨g', off, e, h⟩
  · omega
  · rw [e] at hg
    cases hg
    exact World.block_lt_of_cell? w _ (h 0 (by omega)).1
theorem walkM_head {np : Nat} {fr : Nat → Int} {n : Nat} {p : PR} (h : headM n p = true) : walkM np fr n p = runM np fr p p.len (updI (fun _ => -1) 0 (dep0 p)) (updB (fun _ => false) 0 true) := by
  unfold walkM
  rw [if_pos h]
/-- One proto, by the document. -/
theorem rwalk_one (w : World) (so : Option Addr) (np sc : Nat) (P : Nat → PR) (Q : Nat → Hd) (n : Nat) (hP : ProtosAt w so np P Q) (h1 : np ≤ sc) (h2 : sc ≤ 9223372036854775807) (hn : n < np) (hh : headM n (P n) = true) (W : Nat × Nat × (Nat → Int)) (hW : W = walkM np (fun i => (P i).free) n (P n)) :
    Calls Try.prog 20 #[.slice so np sc, .agg #[.string (Q n).nm, .int .i64 (P n).args, .int .i64 (P n).free, .bool (P n).rest, .slice (Q n).co (P n).len (Q n).cc, .slice (Q n).ka (P n).nc (Q n).kc, .slice (Q n).na (P n).nn (Q n).nc]] w fun e w' => RWEnd w' (P n) W e ∧ Fr (fun _ => False) w w' := by
  have hf := head_fit hh
  have hc : CodeAt w (Q n).co (P n) ∧ PB (P n) (Q n) := by
    rcases hP with e | ⟨g, off, e, h⟩
    · omega
    · exact (h n hn).2
  rw [walkM_head hh] at hW
  exact rwalk_any w so np sc _ (P n) (Q n) hP.frees h1 h2 hc.2 hc.1 hf.2.2.1 hf.2.2.2 hf.1 hf.2.1 (hP.sB (by omega)) (hc.1.kB hf.2.2.1) W hW

set_option maxRecDepth 20000 in
set_option maxHeartbeats 2000000 in
theorem rprogram_any (w : World) (so : Option Addr) (np sc : Nat) (P : Nat → PR) (Q : Nat → Hd) (hP : ProtosAt w so np P Q) (h1 : np ≤ sc) (h2 : sc ≤ 9223372036854775807) (R : Nat × Nat × Nat) (hR : R = programM np P) :
    Calls Try.prog 9 #[.slice so np sc] w fun e w' => e = .returned (.tuple #[.int .i64 (R.1 : Int), .int .i64 (R.2.1 : Int), .int .i64 (R.2.2 : Int)]) ∧ Fr (fun _ => False) w w' := by
  unfold programM at hR
  by_cases h0 : np = 0
  · subst h0
    rw [if_pos rfl] at hR
    subst hR
    clear hP
    go_enter Try.func9, Try.ntmps9
    go_wp2
    go_ret3
    exact ⟨rfl, Fr.refl _ _⟩
  · rw [if_neg h0] at hR
    have n0 : ((np : Int) == 0) = false := by rw [beq_eq_false_iff_ne]; omega
    have HP := hide hP
    have HR := hide hR
    obtain ⟨g, off, rfl⟩ : ∃ g off, so = some ⟨g, off, none⟩ := by
      rcases hP with e | ⟨g, off, e, _⟩
      · exact absurd e h0
      · exact ⟨g, off, e⟩
    clear hP hR h0
    go_enter Try.func9, Try.ntmps9
    go_wp2_with fail
    go_loopg [5] np (fun k u wr => ∃ i : Nat, u = .int .i64 (i : Int) ∧ i ≤ np ∧ k = np - i ∧ R = progM np P (np - i) i ∧ Fr (fun _ => False) w wr)
    case atStart => exact ⟨0, rfl, Nat.zero_le _, rfl, HR.out, Fr.refl _ _⟩
    case round =>
      clear HR
      obtain ⟨i, rfl, hi, hgk, hR, hF⟩ := hrel
      by_cases hil : i < np
      · obtain ⟨W, hW⟩ : ∃ W, W = walkM np (fun i => (P i).free) i (P i) := ⟨_, rfl⟩
        obtain ⟨k, hk⟩ : ∃ k, np - i = k + 1 := ⟨np - i - 1, by omega⟩
        have hk2 : np - (i + 1) = k := by omega
        rw [hk, progM_step hW] at hR
        have hPr := HP.out.new hF
        obtain ⟨HB, hHB⟩ : ∃ x, x = !headM i (P i) := ⟨_, rfl⟩
        have hpr : PrAt wr g (off + i * 7) (P i) (Q i) := by
          rcases hPr with e | ⟨g', off', e, hh⟩
          · omega
          · cases e
            exact (hh i hil).1
        have hlen : (P i).len ≤ 9223372036854775807 := by
          rcases hPr with e | ⟨g', off', e, hh⟩
          · omega
          · have := (hh i hil).2.2.c1
            have := (hh i hil).2.2.c2
            omega
        have c0 := hpr.c0
        have c1 := hpr.c1
        have c2 := hpr.c2
        obtain ⟨rb, hrb⟩ : ∃ x, x = (P i).rest := ⟨_, rfl⟩
        have c3 := hpr.c3
        rw [← hrb] at c3
        have c4 := hpr.c4
        have c5 := hpr.c5
        have c6 := hpr.c6
        have HGK := hide hgk
        have HK2 := hide hk2
        have HK := hide hk
        have HRR := hide hR
        have HW := hide hW
        have HF := hide hF
        have HPR := hide hPr
        have HHB := hide hHB
        have HPB : Hid (prB (P i) (Q i) = #[.string (Q i).nm, .int .i64 (P i).args, .int .i64 (P i).free, .bool rb, .slice (Q i).co (P i).len (Q i).cc, .slice (Q i).ka (P i).nc (Q i).kc, .slice (Q i).na (P i).nn (Q i).nc]) := by unfold Hid prB; rw [hrb]
        have HRB := hide hrb
        clear hgk hk2 hk hR hW hF hPr hpr hHB hrb
        go_upto_region 7 with fail
        go_cut [58] from 13 to 71 (fun s wc => s = .bool HB ∧ wc.heap[wr.heap.size]? = some (.cells (prB (P i) (Q i)) 45 (0, 0)) ∧ Hid (Fr (fun _ => False) wr wc))
        case first =>
          obtain ⟨b1, hb1⟩ : ∃ x, x = isIn (P i).args 0 64 := ⟨_, rfl⟩
          obtain ⟨b2, hb2⟩ : ∃ x, x = isIn (P i).free 0 4096 := ⟨_, rfl⟩
          obtain ⟨b3, hb3⟩ : ∃ x, x = isIn (P i).len 1 65536 := ⟨_, rfl⟩
          have HK1 : Hid (∀ W, Calls Try.prog 19 #[.int .i64 (P i).args, .int .i64 65] W fun e w' => e = .returned (.bool b1) ∧ w' = W) := fun W => by rw [hb1]; exact rin_any (P i).args 65 W
          have HK2 : Hid (∀ W, Calls Try.prog 19 #[.int .i64 (P i).free, .int .i64 4097] W fun e w' => e = .returned (.bool b2) ∧ w' = W) := fun W => by rw [hb2]; exact rin_any (P i).free 4097 W
          have HK3 : Hid (∀ W, Calls Try.prog 19 #[.int .i64 ((P i).len - 1), .int .i64 65536] W fun e w' => e = .returned (.bool b3) ∧ w' = W) := fun W => by rw [hb3, ← isIn_shift]; exact rin_any ((P i).len - 1) 65536 W
          have HHC : Hid (HB = !((!(i == 0 && (!((P i).args == 0) || (!((P i).free == 0) || rb)))) && (b1 && (b2 && b3)))) := by unfold Hid; rw [HHB.out, hb1, hb2, hb3, HRB.out]; rfl
          clear hb1 hb2 hb3 HHB HRB
          cases b1
          · have HE : Hid (HB = true) := by unfold Hid; rw [HHC.out]; simp
            clear HHC
            go_wp2_with (go_at_call_of 19 (Value.int IntKind.i64 65); refine (HK1.out _).mono ?_; rintro e9 w9 ⟨rfl, rfl⟩)
            go_meet
            exact ⟨by rw [HE.out], by rw [HPB.out]; exact heap_alloc_new _ _, hide ((Fr.refl _ _).alloc _)⟩
          · cases b2
            · have HE : Hid (HB = true) := by unfold Hid; rw [HHC.out]; simp
              clear HHC
              go_wp2_with (first
                | (go_at_call_of 19 (Value.int IntKind.i64 65); refine (HK1.out _).mono ?_; rintro e9 w9 ⟨rfl, rfl⟩)
                | (go_at_call_of 19 (Value.int IntKind.i64 4097); refine (HK2.out _).mono ?_; rintro e9 w9 ⟨rfl, rfl⟩))
              go_meet
              exact ⟨by rw [HE.out], by rw [HPB.out]; exact heap_alloc_new _ _, hide ((Fr.refl _ _).alloc _)⟩
            · cases b3
              · have HE : Hid (HB = true) := by unfold Hid; rw [HHC.out]; simp
                clear HHC
                go_wp2_with (first
                  | (go_at_call_of 19 (Value.int IntKind.i64 65); refine (HK1.out _).mono ?_; rintro e9 w9 ⟨rfl, rfl⟩)
                  | (go_at_call_of 19 (Value.int IntKind.i64 4097); refine (HK2.out _).mono ?_; rintro e9 w9 ⟨rfl, rfl⟩)
                  | (go_at_call_of 19 (Value.int IntKind.i64 65536); refine (HK3.out _).mono ?_; rintro e9 w9 ⟨rfl, rfl⟩))
                go_meet
                exact ⟨by rw [HE.out], by rw [HPB.out]; exact heap_alloc_new _ _, hide ((Fr.refl _ _).alloc _)⟩
              · by_cases hi0 : i = 0
                · have g0 : ((i : Int) == 0) = true := by rw [hi0]; rfl
                  by_cases hra : (P i).args = 0
                  · have g1 : ((P i).args != 0) = false := by rw [hra]; rfl
                    cases rb
                    · by_cases hrf : (P i).free = 0
                      · have g2 : ((P i).free != 0) = false := by rw [hrf]; rfl
                        have HE : Hid (HB = false) := by unfold Hid; rw [HHC.out]; simp [hra, hrf]
                        clear HHC hi0 hra hrf
                        go_wp2_with (first
                          | (go_at_call_of 19 (Value.int IntKind.i64 65); refine (HK1.out _).mono ?_; rintro e9 w9 ⟨rfl, rfl⟩)
                          | (go_at_call_of 19 (Value.int IntKind.i64 4097); refine (HK2.out _).mono ?_; rintro e9 w9 ⟨rfl, rfl⟩)
                          | (go_at_call_of 19 (Value.int IntKind.i64 65536); refine (HK3.out _).mono ?_; rintro e9 w9 ⟨rfl, rfl⟩))
                        go_meet
                        exact ⟨by rw [HE.out], by rw [HPB.out]; exact heap_alloc_new _ _, hide ((Fr.refl _ _).alloc _)⟩
                      · have g2 : ((P i).free != 0) = true := by rw [bne_iff_ne]; exact hrf
                        have HE : Hid (HB = true) := by unfold Hid; rw [HHC.out, show (i == 0) = true from by rw [hi0]; rfl]; simp [hrf]
                        clear HHC hi0 hra hrf
                        go_wp2_with (first
                          | (go_at_call_of 19 (Value.int IntKind.i64 65); refine (HK1.out _).mono ?_; rintro e9 w9 ⟨rfl, rfl⟩)
                          | (go_at_call_of 19 (Value.int IntKind.i64 4097); refine (HK2.out _).mono ?_; rintro e9 w9 ⟨rfl, rfl⟩)
                          | (go_at_call_of 19 (Value.int IntKind.i64 65536); refine (HK3.out _).mono ?_; rintro e9 w9 ⟨rfl, rfl⟩))
                        go_meet
                        exact ⟨by rw [HE.out], by rw [HPB.out]; exact heap_alloc_new _ _, hide ((Fr.refl _ _).alloc _)⟩
                    · have HE : Hid (HB = true) := by unfold Hid; rw [HHC.out, show (i == 0) = true from by rw [hi0]; rfl]; simp
                      clear HHC hi0 hra
                      go_wp2_with (first
                        | (go_at_call_of 19 (Value.int IntKind.i64 65); refine (HK1.out _).mono ?_; rintro e9 w9 ⟨rfl, rfl⟩)
                        | (go_at_call_of 19 (Value.int IntKind.i64 4097); refine (HK2.out _).mono ?_; rintro e9 w9 ⟨rfl, rfl⟩)
                        | (go_at_call_of 19 (Value.int IntKind.i64 65536); refine (HK3.out _).mono ?_; rintro e9 w9 ⟨rfl, rfl⟩))
                      go_meet
                      exact ⟨by rw [HE.out], by rw [HPB.out]; exact heap_alloc_new _ _, hide ((Fr.refl _ _).alloc _)⟩
                  · have g1 : ((P i).args != 0) = true := by rw [bne_iff_ne]; exact hra
                    have HE : Hid (HB = true) := by unfold Hid; rw [HHC.out, show (i == 0) = true from by rw [hi0]; rfl]; simp [hra]
                    clear HHC hi0 hra
                    go_wp2_with (first
                      | (go_at_call_of 19 (Value.int IntKind.i64 65); refine (HK1.out _).mono ?_; rintro e9 w9 ⟨rfl, rfl⟩)
                      | (go_at_call_of 19 (Value.int IntKind.i64 4097); refine (HK2.out _).mono ?_; rintro e9 w9 ⟨rfl, rfl⟩)
                      | (go_at_call_of 19 (Value.int IntKind.i64 65536); refine (HK3.out _).mono ?_; rintro e9 w9 ⟨rfl, rfl⟩))
                    go_meet
                    exact ⟨by rw [HE.out], by rw [HPB.out]; exact heap_alloc_new _ _, hide ((Fr.refl _ _).alloc _)⟩
                · have g0 : ((i : Int) == 0) = false := by rw [beq_eq_false_iff_ne]; omega
                  have HE : Hid (HB = false) := by unfold Hid; rw [HHC.out]; simp [hi0]
                  clear HHC hi0
                  go_wp2_with (first
                    | (go_at_call_of 19 (Value.int IntKind.i64 65); refine (HK1.out _).mono ?_; rintro e9 w9 ⟨rfl, rfl⟩)
                    | (go_at_call_of 19 (Value.int IntKind.i64 4097); refine (HK2.out _).mono ?_; rintro e9 w9 ⟨rfl, rfl⟩)
                    | (go_at_call_of 19 (Value.int IntKind.i64 65536); refine (HK3.out _).mono ?_; rintro e9 w9 ⟨rfl, rfl⟩))
                  go_meet
                  exact ⟨by rw [HE.out], by rw [HPB.out]; exact heap_alloc_new _ _, hide ((Fr.refl _ _).alloc _)⟩
        case rest =>
          have hc1 := hcut.1
          have hbx := hcut.2.1
          have HFc := hcut.2.2
          clear hcut c0 c1 c2 c3 c4 c5 c6 HPB HRB
          subst hc1
          cases HB
          · have hh : headM i (P i) = true := by have := HHB.out; simpa using this
            have KW := rwalk_one wc (some ⟨g, off, none⟩) np sc P Q i (HPR.out.new HFc.out) h1 h2 hil hh W HW.out
            have d0 := cell_row hbx (i := 0) (v := .string (Q i).nm) rfl
            have d1 := cell_row hbx (i := 1) (v := .int .i64 (P i).args) rfl
            have d2 := cell_row hbx (i := 2) (v := .int .i64 (P i).free) rfl
            have d3 := cell_row hbx (i := 3) (v := .bool (P i).rest) rfl
            have d4 := cell_row hbx (i := 4) (v := .slice (Q i).co (P i).len (Q i).cc) rfl
            have d5 := cell_row hbx (i := 5) (v := .slice (Q i).ka (P i).nc (Q i).kc) rfl
            have d6 := cell_row hbx (i := 6) (v := .slice (Q i).na (P i).nn (Q i).nc) rfl
            have HKW := hide KW
            clear KW hbx hh HHB HPR HW
            have hR := HRR.out
            by_cases hW0 : W.1 = 0
            · rw [if_neg (by simpa using hW0)] at hR
              have HR2 := hide hR
              have g0 : ((W.1 : Int) != 0) = false := by rw [hW0]; rfl
              clear hR hW0 HRR
              go_wp2_with (go_at_call 20; refine HKW.out.mono ?_; rintro e3 w3 ⟨⟨v3, rfl, -⟩, F3⟩)
              go_roundg k
              case measure => have := HGK.out; have := HK.out; omega
              case rel => exact ⟨i + 1, by go_num, hil, HK2.out.symm, by rw [HK2.out]; exact HR2.out, HF.out.trans (HFc.out.trans F3 (fun _ _ e => e)) (fun _ _ e => e)⟩
            · rw [if_pos hW0] at hR
              have HR2 := hide hR
              have g0 : ((W.1 : Int) != 0) = true := by rw [bne_iff_ne]; omega
              clear hR hW0 HRR
              go_wp2_with (go_at_call 20; refine HKW.out.mono ?_; rintro e3 w3 ⟨⟨v3, rfl, -⟩, F3⟩)
              go_ret3
              exact ⟨by rw [HR2.out]; rfl, HF.out.trans (HFc.out.trans F3 (fun _ _ e => e)) (fun _ _ e => e)⟩
          · have hh : headM i (P i) = false := by have := HHB.out; simpa using this
            have HR2 : Hid (R = (i, 0, 33)) := by
              have hw : W = (33, 0, fun _ => 0) := by rw [HW.out]; unfold walkM; rw [if_neg (by rw [hh]; exact Bool.false_ne_true)]
              unfold Hid
              rw [HRR.out, hw]
              rfl
            clear hh HHB HPR HW HRR hbx
            go_wp2_with fail
            go_ret3
            exact ⟨by rw [HR2.out]; rfl, HF.out.trans HFc.out (fun _ _ e => e)⟩
      · have e : i = np := by omega
        subst e
        rw [Nat.sub_self] at hR
        have HRR : Hid (R = (0, 0, 0)) := hR
        have HF := hide hF
        clear hR hF hil
        go_wp2
        go_ret3
        exact ⟨by rw [HRR.out]; rfl, HF.out⟩

end Go.Proofs.Ytmogglmofbbjlaa
