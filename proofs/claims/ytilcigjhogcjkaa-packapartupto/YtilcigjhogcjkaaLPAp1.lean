/-
  What is proved here: tandemlaw10.PackApart, case by case.
-/
import Derived.Test.YtilcigjhogcjkaaLPAp0
import Derived.Deep.AppendLies
import Derived.Deep.RegionLaw
namespace Go.Proofs.Ytilcigjhogcjkaa
open Go Go.RowKit

set_option maxRecDepth 100000 in
set_option maxHeartbeats 8000000 in
theorem apart_0 {N : Nat} (w : World) (ps : List (PC N)) (v : Value) (what at' vv : Int) (hr : RowD w (PCellN w) v ps) (hB : (ps.map pbk).sum + 1 ≤ 1048576) (hm : mayW ps = true) (j k : Nat) (hj : j < ps.length) (hk : k < 300) (hP1 : ∀ W, Calls Try.prog 17 #[.int .i64 at', .int .i64 (ps.length : Int)] W fun e w' => e = .returned (.int .i64 (j : Int)) ∧ w' = W) (hP2 : ∀ W, Calls Try.prog 17 #[.int .i64 what, .int .i64 6] W fun e w' => e = .returned (.int .i64 0) ∧ w' = W)
    (hP3 : ∀ W, Calls Try.prog 17 #[.int .i64 vv, .int .i64 300] W fun e w' => e = .returned (.int .i64 (k : Int)) ∧ w' = W) :
    Calls Try.prog 7 #[v, .int .i64 what, .int .i64 at', .int .i64 vv] w fun e w' => e = .returned (.bool true) ∧ Fr (fun _ => False) w w' := by
  obtain ⟨b1, b2⟩ := bulk_parts hB
  have hpg := pg_len ps
  have hgj : goodP ps[j] = true := by
    unfold mayW at hm
    rw [Bool.and_eq_true] at hm
    exact List.all_eq_true.1 hm.1 _ (List.getElem_mem hj)
  have hnf : 0 ≤ ps[j].free ∧ ps[j].free ≤ 1099511627776 := by
    simp only [goodP, Bool.and_eq_true] at hgj
    exact num_le hgj.2.1
  have htd : 0 ≤ ps[j].free.tdiv 2 ∧ ps[j].free.tdiv 2 ≤ 1099511627776 := by
    rw [Int.tdiv_eq_ediv_of_nonneg hnf.1]
    omega
  have hsz0 : ps[j].nm.size ≤ 1048576 := by
    have := mem_sum pbk (List.getElem_mem hj)
    unfold pbk at this hB
    omega
  have HT := hide (turned_of ps j hj { ps[j] with args := (k : Int) } hB hm rfl (.inl rfl) (.inl rfl) (by simp only [goodP, Bool.and_eq_true] at hgj ⊢; exact ⟨by simp [isNum]; omega, hgj.2⟩) (by unfold pbk; simp only; omega) (fun e => turn_args _ _ hgj ⟨by omega, by omega⟩ e))
  have HKC := hide (copyP_any w ps v hr (fun p hp => by have := b1 p hp; omega) (by omega))
  have HKG := hide (fun (W : World) (F : Fr (fun _ => False) w W) => copyG W ps v (hr.frN F) (fun p hp => by have := b1 p hp; omega) (by omega) (by omega))
  have HKW := hide (fun (W : World) (v' : Value) (h : RowD W (PCell W) v' ps) => writeT (by omega) W v' h)
  rw [hm] at HKW
  have HR := hide hr.plainP
  obtain ⟨ao, ca, rfl⟩ := hr.shape
  obtain ⟨qs, hqs⟩ : ∃ qs, qs = ps.set j { ps[j] with args := (k : Int) } := ⟨_, rfl⟩
  rw [← hqs] at HT
  obtain ⟨x1, hx1⟩ : ∃ x : Bool, x = ((strL (pgB ps)).toList == (strL (pgB qs)).toList) := ⟨_, rfl⟩
  have hxs := HT.out.same
  rw [← hx1] at hxs
  have HX := hide hxs
  have K5 := hide (fun (W : World) (v' : Value) (h : RowD W (PCellN W) v' qs) => copyP_any W qs v' h HT.out.bd (by rw [HT.out.len]; omega))
  have K6 := hide (fun (W : World) (v' : Value) (h : RowD W (PCell W) v' qs) => writeT HT.out.pg W v' h)
  rw [HT.out.may] at K6
  obtain ⟨T1, hT1⟩ : ∃ T, T = pgB ps := ⟨_, rfl⟩
  obtain ⟨T2, hT2⟩ : ∃ T, T = pgB qs := ⟨_, rfl⟩
  have K7 := hide (fun (W : World) (a b : Value) (A B : Nat) (ha : ByAt W A a T1) (hb : ByAt W B b T2) => show Calls Try.prog 11 #[a, b] W fun e w' => e = .returned (.bool x1) ∧ w' = W by rw [hx1, ← hT1, ← hT2]; exact sameBy_two W a b A B T1 T2 ha hb)
  have K8 := hide (fun (W : World) (F : Fr (fun _ => False) w W) (G cap : Nat) (h : RowD W (PCell W) (.slice (some ⟨G, 0, none⟩) ps.length cap) qs) => sameP_any W ps qs ao (some ⟨G, 0, none⟩) ca cap ps.length (HR.out.frP F) h rfl HT.out.len (by omega) HT.out.ks HT.out.cd HT.out.ns)
  simp only [if_true] at HKW K6
  rw [← hT1] at HKW
  rw [← hT2] at K6
  have hxx : (x1 == x1) = true := beq_self_eq_true _
  have HKA := hide (fun (W : World) => awake_any W)
  have HQ := hide hqs
  have HJ := hide hj
  have HP1 := hide hP1
  have HP2 := hide hP2
  have HP3 := hide hP3
  have g0 : ((ps.length : Int) == 0) = false := by rw [beq_eq_false_iff_ne]; omega
  have hjI : (j : Int) < (ps.length : Int) := by omega
  have hlN : ps.length ≤ 1048576 := b2
  have HBD := hide (b1 _ (List.getElem_mem hj))
  have HFR := hide hnf
  clear hr hB hm b1 b2 hpg hgj hqs hx1 hxs hT1 hT2 hP1 hP2 hP3 hnf
  obtain ⟨p, hp⟩ : ∃ p, p = ps[j]'HJ.out := ⟨_, rfl⟩
  have HPE := hide hp
  clear hp htd hsz0
  go_enter Try.func7, Try.ntmps7
  go_wp2_with (first
    | (have hx := HA; clear hx; go_at_call 9; have R3 : RowD (w3.setCell ⟨G, j * 7 + 1, none⟩ (.int .i64 (k : Int))) (PCellN (w3.setCell ⟨G, j * 7 + 1, none⟩ (.int .i64 (k : Int)))) (.slice (some ⟨G, 0, none⟩) ps.length cap) qs := (by rw [HQ.out]; exact HA.out.field HJ.out (f := 1) (by decide) (.int .i64 (k : Int)) { (ps[j]'HJ.out) with args := (k : Int) } ⟨rfl, rfl, rfl⟩ rfl); have HF3 : Hid (Fr (fun _ => False) w2 (w3.setCell ⟨G, j * 7 + 1, none⟩ (.int .i64 (k : Int)))) := hide (HA.out.fr3 _ _); refine (K5.out _ _ R3).mono ?_; have HR3 := hide R3; clear R3; rintro e5 w5 ⟨v5, rfl, hP5, F5⟩; have HP5 := hide hP5; have HG5 := hide (HF3.out.trans F5 (fun _ _ e => e)); have HR5 := hide (HR3.out.plainP.frP F5); clear hP5 F5)
    | (have hx := HB2; clear hx; go_at_call_of 9 (Value.slice ao ps.length ca); refine (HKG.out _ HF2.out).mono ?_; rintro e3 w3 ⟨G, cap, xs, L, rfl, hA⟩; obtain ⟨co, cc, ka, kc, na, nc, hsv, ⟨z0, z1, z2, z3, z4, z5, z6⟩, hfz, ho1, ho2, hn1, hn2⟩ := hA.at HJ.out; have fz := hfz (j * 7 + 1); rw [← HPE.out] at hsv z0 z1 z2 z3 z4 z5 z6 ho1 ho2 hn1 hn2; have hcap : ps.length ≤ cap ∧ cap ≤ 9223372036854775807 := (by have := hA.cells HJ.out; exact ⟨this.2.2.2.2.1, this.2.2.2.2.2⟩); have HO1 := hide ho1; have HO2 := hide ho2; have HN1 := hide hn1; have HN2 := hide hn2; have HSV := hide hsv; have HA := hide hA; have HGL : Hid (G < w3.heap.size) := (hA.own.lt G rfl).2; have HLJ : Hid (w2.heap.size ≤ L j) := (Nat.le_trans hA.lo (hA.mono j (by omega)).1); clear hA hfz ho1 ho2 hn1 hn2 hsv)
    | (go_at_call_of 9 (Value.slice ao ps.length ca); refine HKC.out.mono ?_; rintro e1 w1 ⟨v1, rfl, hC1, F1⟩; have HC1 := hide hC1; have HF1 := hide F1; clear hC1 F1)
    | (have hx := HP5; clear hx; go_at_call 8; refine (K6.out _ _ HP5.out).mono ?_; rintro e6 w6 ⟨a6, c6, rfl, hb6, F6⟩; have HB6 := hide hb6; have HG6 := hide (HG5.out.trans F6 (fun _ _ e => e)); have HR6 := hide (HR5.out.frP F6); clear F6 hb6)
    | (go_at_call 8; refine (HKW.out _ _ HC1.out).mono ?_; rintro e2 w2 ⟨a2, c2, rfl, hb2, F2⟩; have HB2 := hide hb2; have HF2 := hide (HF1.out.trans F2 (fun _ _ e => e)); clear F2 hb2)
    | (go_at_call_of 17 (Value.int IntKind.i64 at'); refine (HP1.out _).mono ?_; rintro e7 w7 ⟨rfl, hw⟩; replace hw := hw.symm; subst hw)
    | (go_at_call_of 17 (Value.int IntKind.i64 what); refine (HP2.out _).mono ?_; rintro e7 w7 ⟨rfl, hw⟩; replace hw := hw.symm; subst hw)
    | (go_at_call_of 17 (Value.int IntKind.i64 vv); refine (HP3.out _).mono ?_; rintro e7 w7 ⟨rfl, hw⟩; replace hw := hw.symm; subst hw)
    | (go_at_call 11; refine (K7.out _ _ _ _ _ (HB2.out.fr HG6.out) HB6.out).mono ?_; rintro e7 w7 ⟨rfl, hw⟩; replace hw := hw.symm; subst hw)
    | (go_at_call 16; refine (K8.out _ (HF2.out.trans HG6.out (fun _ _ e => e)) _ _ HR6.out).mono ?_; rintro e8 w8 ⟨r, rfl, hr8, U8⟩; have hrx : r = x1 := (Bool.eq_iff_iff.2 (hr8.trans HX.out.symm)); subst hrx; have HF8 := hide ((HF2.out.trans HG6.out (fun _ _ e => e)).trans (Up.frw' U8) (fun _ _ e => e)); clear hr8 U8)
    | (go_at_call 12; refine (HKA.out _).mono ?_; rintro e9 w9 ⟨rfl, F9⟩; have HF9 := hide (HF8.out.trans F9 (fun _ _ e => e)); clear F9))
  go_ret
  exact ⟨rfl, HF9.out⟩

set_option maxRecDepth 100000 in
set_option maxHeartbeats 8000000 in
theorem apart_1 {N : Nat} (w : World) (ps : List (PC N)) (v : Value) (what at' vv : Int) (hr : RowD w (PCellN w) v ps) (hB : (ps.map pbk).sum + 1 ≤ 1048576) (hm : mayW ps = true) (j k : Nat) (hj : j < ps.length) (_hk : k < 300) (hP1 : ∀ W, Calls Try.prog 17 #[.int .i64 at', .int .i64 (ps.length : Int)] W fun e w' => e = .returned (.int .i64 (j : Int)) ∧ w' = W) (hP2 : ∀ W, Calls Try.prog 17 #[.int .i64 what, .int .i64 6] W fun e w' => e = .returned (.int .i64 1) ∧ w' = W)
    (hP3 : ∀ W, Calls Try.prog 17 #[.int .i64 vv, .int .i64 300] W fun e w' => e = .returned (.int .i64 (k : Int)) ∧ w' = W) :
    Calls Try.prog 7 #[v, .int .i64 what, .int .i64 at', .int .i64 vv] w fun e w' => e = .returned (.bool true) ∧ Fr (fun _ => False) w w' := by
  obtain ⟨b1, b2⟩ := bulk_parts hB
  have hpg := pg_len ps
  have hgj : goodP ps[j] = true := by
    unfold mayW at hm
    rw [Bool.and_eq_true] at hm
    exact List.all_eq_true.1 hm.1 _ (List.getElem_mem hj)
  have hnf : 0 ≤ ps[j].free ∧ ps[j].free ≤ 1099511627776 := by
    simp only [goodP, Bool.and_eq_true] at hgj
    exact num_le hgj.2.1
  have htd : 0 ≤ ps[j].free.tdiv 2 ∧ ps[j].free.tdiv 2 ≤ 1099511627776 := by
    rw [Int.tdiv_eq_ediv_of_nonneg hnf.1]
    omega
  have hsz0 : ps[j].nm.size ≤ 1048576 := by
    have := mem_sum pbk (List.getElem_mem hj)
    unfold pbk at this hB
    omega
  have HT := hide (turned_of ps j hj { ps[j] with nm := ps[j].nm ++ ⟨#[120]⟩ } hB hm rfl (.inl rfl) (.inl rfl) (by exact hgj) (by unfold pbk; simp only [ByteArray.size_append]; have : (⟨#[120]⟩ : ByteArray).size = 1 := rfl; omega) (fun e => turn_name _ _ (by rw [ByteArray.size_append]; rfl) (by have := mem_sum pbk (List.getElem_mem hj); unfold pbk at this hB; omega) e))
  have HKC := hide (copyP_any w ps v hr (fun p hp => by have := b1 p hp; omega) (by omega))
  have HKG := hide (fun (W : World) (F : Fr (fun _ => False) w W) => copyG W ps v (hr.frN F) (fun p hp => by have := b1 p hp; omega) (by omega) (by omega))
  have HKW := hide (fun (W : World) (v' : Value) (h : RowD W (PCell W) v' ps) => writeT (by omega) W v' h)
  rw [hm] at HKW
  have HR := hide hr.plainP
  obtain ⟨ao, ca, rfl⟩ := hr.shape
  obtain ⟨qs, hqs⟩ : ∃ qs, qs = ps.set j { ps[j] with nm := ps[j].nm ++ ⟨#[120]⟩ } := ⟨_, rfl⟩
  rw [← hqs] at HT
  obtain ⟨x1, hx1⟩ : ∃ x : Bool, x = ((strL (pgB ps)).toList == (strL (pgB qs)).toList) := ⟨_, rfl⟩
  have hxs := HT.out.same
  rw [← hx1] at hxs
  have HX := hide hxs
  have K5 := hide (fun (W : World) (v' : Value) (h : RowD W (PCellN W) v' qs) => copyP_any W qs v' h HT.out.bd (by rw [HT.out.len]; omega))
  have K6 := hide (fun (W : World) (v' : Value) (h : RowD W (PCell W) v' qs) => writeT HT.out.pg W v' h)
  rw [HT.out.may] at K6
  obtain ⟨T1, hT1⟩ : ∃ T, T = pgB ps := ⟨_, rfl⟩
  obtain ⟨T2, hT2⟩ : ∃ T, T = pgB qs := ⟨_, rfl⟩
  have K7 := hide (fun (W : World) (a b : Value) (A B : Nat) (ha : ByAt W A a T1) (hb : ByAt W B b T2) => show Calls Try.prog 11 #[a, b] W fun e w' => e = .returned (.bool x1) ∧ w' = W by rw [hx1, ← hT1, ← hT2]; exact sameBy_two W a b A B T1 T2 ha hb)
  have K8 := hide (fun (W : World) (F : Fr (fun _ => False) w W) (G cap : Nat) (h : RowD W (PCell W) (.slice (some ⟨G, 0, none⟩) ps.length cap) qs) => sameP_any W ps qs ao (some ⟨G, 0, none⟩) ca cap ps.length (HR.out.frP F) h rfl HT.out.len (by omega) HT.out.ks HT.out.cd HT.out.ns)
  simp only [if_true] at HKW K6
  rw [← hT1] at HKW
  rw [← hT2] at K6
  have hxx : (x1 == x1) = true := beq_self_eq_true _
  have HKA := hide (fun (W : World) => awake_any W)
  have HQ := hide hqs
  have HJ := hide hj
  have HP1 := hide hP1
  have HP2 := hide hP2
  have HP3 := hide hP3
  have g0 : ((ps.length : Int) == 0) = false := by rw [beq_eq_false_iff_ne]; omega
  have hjI : (j : Int) < (ps.length : Int) := by omega
  have hlN : ps.length ≤ 1048576 := b2
  have HBD := hide (b1 _ (List.getElem_mem hj))
  have HFR := hide hnf
  clear hr hB hm b1 b2 hpg hgj hqs hx1 hxs hT1 hT2 hP1 hP2 hP3 hnf
  obtain ⟨p, hp⟩ : ∃ p, p = ps[j]'HJ.out := ⟨_, rfl⟩
  have HPE := hide hp
  have hsz : ¬ ((9223372036854775807 : Nat) < p.nm.size + 1) := by rw [hp]; omega
  clear hp htd hsz0
  go_enter Try.func7, Try.ntmps7
  go_wp2_with (first
    | (have hx := HA; clear hx; go_at_call 9; have R3 : RowD (w3.setCell ⟨G, j * 7, none⟩ (.string (p.nm ++ ⟨#[120]⟩))) (PCellN (w3.setCell ⟨G, j * 7, none⟩ (.string (p.nm ++ ⟨#[120]⟩)))) (.slice (some ⟨G, 0, none⟩) ps.length cap) qs := (by rw [HQ.out, HPE.out]; exact HA.out.field0 HJ.out _); have HF3 : Hid (Fr (fun _ => False) w2 (w3.setCell ⟨G, j * 7, none⟩ (.string (p.nm ++ ⟨#[120]⟩)))) := hide (HA.out.fr3 _ _); refine (K5.out _ _ R3).mono ?_; have HR3 := hide R3; clear R3; rintro e5 w5 ⟨v5, rfl, hP5, F5⟩; have HP5 := hide hP5; have HG5 := hide (HF3.out.trans F5 (fun _ _ e => e)); have HR5 := hide (HR3.out.plainP.frP F5); clear hP5 F5)
    | (have hx := HB2; clear hx; go_at_call_of 9 (Value.slice ao ps.length ca); refine (HKG.out _ HF2.out).mono ?_; rintro e3 w3 ⟨G, cap, xs, L, rfl, hA⟩; obtain ⟨co, cc, ka, kc, na, nc, hsv, ⟨z0, z1, z2, z3, z4, z5, z6⟩, hfz, ho1, ho2, hn1, hn2⟩ := hA.at HJ.out; have fz := hfz (j * 7); rw [← HPE.out] at hsv z0 z1 z2 z3 z4 z5 z6 ho1 ho2 hn1 hn2; have hcap : ps.length ≤ cap ∧ cap ≤ 9223372036854775807 := (by have := hA.cells HJ.out; exact ⟨this.2.2.2.2.1, this.2.2.2.2.2⟩); have HO1 := hide ho1; have HO2 := hide ho2; have HN1 := hide hn1; have HN2 := hide hn2; have HSV := hide hsv; have HA := hide hA; have HGL : Hid (G < w3.heap.size) := (hA.own.lt G rfl).2; have HLJ : Hid (w2.heap.size ≤ L j) := (Nat.le_trans hA.lo (hA.mono j (by omega)).1); clear hA hfz ho1 ho2 hn1 hn2 hsv)
    | (go_at_call_of 9 (Value.slice ao ps.length ca); refine HKC.out.mono ?_; rintro e1 w1 ⟨v1, rfl, hC1, F1⟩; have HC1 := hide hC1; have HF1 := hide F1; clear hC1 F1)
    | (have hx := HP5; clear hx; go_at_call 8; refine (K6.out _ _ HP5.out).mono ?_; rintro e6 w6 ⟨a6, c6, rfl, hb6, F6⟩; have HB6 := hide hb6; have HG6 := hide (HG5.out.trans F6 (fun _ _ e => e)); have HR6 := hide (HR5.out.frP F6); clear F6 hb6)
    | (go_at_call 8; refine (HKW.out _ _ HC1.out).mono ?_; rintro e2 w2 ⟨a2, c2, rfl, hb2, F2⟩; have HB2 := hide hb2; have HF2 := hide (HF1.out.trans F2 (fun _ _ e => e)); clear F2 hb2)
    | (go_at_call_of 17 (Value.int IntKind.i64 at'); refine (HP1.out _).mono ?_; rintro e7 w7 ⟨rfl, hw⟩; replace hw := hw.symm; subst hw)
    | (go_at_call_of 17 (Value.int IntKind.i64 what); refine (HP2.out _).mono ?_; rintro e7 w7 ⟨rfl, hw⟩; replace hw := hw.symm; subst hw)
    | (go_at_call_of 17 (Value.int IntKind.i64 vv); refine (HP3.out _).mono ?_; rintro e7 w7 ⟨rfl, hw⟩; replace hw := hw.symm; subst hw)
    | (go_at_call 11; refine (K7.out _ _ _ _ _ (HB2.out.fr HG6.out) HB6.out).mono ?_; rintro e7 w7 ⟨rfl, hw⟩; replace hw := hw.symm; subst hw)
    | (go_at_call 16; refine (K8.out _ (HF2.out.trans HG6.out (fun _ _ e => e)) _ _ HR6.out).mono ?_; rintro e8 w8 ⟨r, rfl, hr8, U8⟩; have hrx : r = x1 := (Bool.eq_iff_iff.2 (hr8.trans HX.out.symm)); subst hrx; have HF8 := hide ((HF2.out.trans HG6.out (fun _ _ e => e)).trans (Up.frw' U8) (fun _ _ e => e)); clear hr8 U8)
    | (go_at_call 12; refine (HKA.out _).mono ?_; rintro e9 w9 ⟨rfl, F9⟩; have HF9 := hide (HF8.out.trans F9 (fun _ _ e => e)); clear F9))
  go_ret
  exact ⟨rfl, HF9.out⟩

set_option maxRecDepth 100000 in
set_option maxHeartbeats 8000000 in
theorem apart_2 {N : Nat} (w : World) (ps : List (PC N)) (v : Value) (what at' vv : Int) (hr : RowD w (PCellN w) v ps) (hB : (ps.map pbk).sum + 1 ≤ 1048576) (hm : mayW ps = true) (j k : Nat) (hj : j < ps.length) (_hk : k < 300) (hP1 : ∀ W, Calls Try.prog 17 #[.int .i64 at', .int .i64 (ps.length : Int)] W fun e w' => e = .returned (.int .i64 (j : Int)) ∧ w' = W) (hP2 : ∀ W, Calls Try.prog 17 #[.int .i64 what, .int .i64 6] W fun e w' => e = .returned (.int .i64 2) ∧ w' = W)
    (hP3 : ∀ W, Calls Try.prog 17 #[.int .i64 vv, .int .i64 300] W fun e w' => e = .returned (.int .i64 (k : Int)) ∧ w' = W) :
    Calls Try.prog 7 #[v, .int .i64 what, .int .i64 at', .int .i64 vv] w fun e w' => e = .returned (.bool true) ∧ Fr (fun _ => False) w w' := by
  obtain ⟨b1, b2⟩ := bulk_parts hB
  have hpg := pg_len ps
  have hgj : goodP ps[j] = true := by
    unfold mayW at hm
    rw [Bool.and_eq_true] at hm
    exact List.all_eq_true.1 hm.1 _ (List.getElem_mem hj)
  have hnf : 0 ≤ ps[j].free ∧ ps[j].free ≤ 1099511627776 := by
    simp only [goodP, Bool.and_eq_true] at hgj
    exact num_le hgj.2.1
  have htd : 0 ≤ ps[j].free.tdiv 2 ∧ ps[j].free.tdiv 2 ≤ 1099511627776 := by
    rw [Int.tdiv_eq_ediv_of_nonneg hnf.1]
    omega
  have hsz0 : ps[j].nm.size ≤ 1048576 := by
    have := mem_sum pbk (List.getElem_mem hj)
    unfold pbk at this hB
    omega
  have HT := hide (turned_of ps j hj { ps[j] with rest := !ps[j].rest } hB hm rfl (.inl rfl) (.inl rfl) (by exact hgj) (by unfold pbk; simp only; omega) (fun e => turn_rest _ e))
  have HKC := hide (copyP_any w ps v hr (fun p hp => by have := b1 p hp; omega) (by omega))
  have HKG := hide (fun (W : World) (F : Fr (fun _ => False) w W) => copyG W ps v (hr.frN F) (fun p hp => by have := b1 p hp; omega) (by omega) (by omega))
  have HKW := hide (fun (W : World) (v' : Value) (h : RowD W (PCell W) v' ps) => writeT (by omega) W v' h)
  rw [hm] at HKW
  have HR := hide hr.plainP
  obtain ⟨ao, ca, rfl⟩ := hr.shape
  obtain ⟨qs, hqs⟩ : ∃ qs, qs = ps.set j { ps[j] with rest := !ps[j].rest } := ⟨_, rfl⟩
  rw [← hqs] at HT
  obtain ⟨x1, hx1⟩ : ∃ x : Bool, x = ((strL (pgB ps)).toList == (strL (pgB qs)).toList) := ⟨_, rfl⟩
  have hxs := HT.out.same
  rw [← hx1] at hxs
  have HX := hide hxs
  have K5 := hide (fun (W : World) (v' : Value) (h : RowD W (PCellN W) v' qs) => copyP_any W qs v' h HT.out.bd (by rw [HT.out.len]; omega))
  have K6 := hide (fun (W : World) (v' : Value) (h : RowD W (PCell W) v' qs) => writeT HT.out.pg W v' h)
  rw [HT.out.may] at K6
  obtain ⟨T1, hT1⟩ : ∃ T, T = pgB ps := ⟨_, rfl⟩
  obtain ⟨T2, hT2⟩ : ∃ T, T = pgB qs := ⟨_, rfl⟩
  have K7 := hide (fun (W : World) (a b : Value) (A B : Nat) (ha : ByAt W A a T1) (hb : ByAt W B b T2) => show Calls Try.prog 11 #[a, b] W fun e w' => e = .returned (.bool x1) ∧ w' = W by rw [hx1, ← hT1, ← hT2]; exact sameBy_two W a b A B T1 T2 ha hb)
  have K8 := hide (fun (W : World) (F : Fr (fun _ => False) w W) (G cap : Nat) (h : RowD W (PCell W) (.slice (some ⟨G, 0, none⟩) ps.length cap) qs) => sameP_any W ps qs ao (some ⟨G, 0, none⟩) ca cap ps.length (HR.out.frP F) h rfl HT.out.len (by omega) HT.out.ks HT.out.cd HT.out.ns)
  simp only [if_true] at HKW K6
  rw [← hT1] at HKW
  rw [← hT2] at K6
  have hxx : (x1 == x1) = true := beq_self_eq_true _
  have HKA := hide (fun (W : World) => awake_any W)
  have HQ := hide hqs
  have HJ := hide hj
  have HP1 := hide hP1
  have HP2 := hide hP2
  have HP3 := hide hP3
  have g0 : ((ps.length : Int) == 0) = false := by rw [beq_eq_false_iff_ne]; omega
  have hjI : (j : Int) < (ps.length : Int) := by omega
  have hlN : ps.length ≤ 1048576 := b2
  have HBD := hide (b1 _ (List.getElem_mem hj))
  have HFR := hide hnf
  clear hr hB hm b1 b2 hpg hgj hqs hx1 hxs hT1 hT2 hP1 hP2 hP3 hnf
  obtain ⟨p, hp⟩ : ∃ p, p = ps[j]'HJ.out := ⟨_, rfl⟩
  have HPE := hide hp
  clear hp htd hsz0
  go_enter Try.func7, Try.ntmps7
  go_wp2_with (first
    | (have hx := HA; clear hx; go_at_call 9; have R3 : RowD (w3.setCell ⟨G, j * 7 + 3, none⟩ (.bool (!p.rest))) (PCellN (w3.setCell ⟨G, j * 7 + 3, none⟩ (.bool (!p.rest)))) (.slice (some ⟨G, 0, none⟩) ps.length cap) qs := (by rw [HQ.out, HPE.out]; exact HA.out.field HJ.out (f := 3) (by decide) (.bool (!(ps[j]'HJ.out).rest)) { (ps[j]'HJ.out) with rest := !(ps[j]'HJ.out).rest } ⟨rfl, rfl, rfl⟩ rfl); have HF3 : Hid (Fr (fun _ => False) w2 (w3.setCell ⟨G, j * 7 + 3, none⟩ (.bool (!p.rest)))) := hide (HA.out.fr3 _ _); refine (K5.out _ _ R3).mono ?_; have HR3 := hide R3; clear R3; rintro e5 w5 ⟨v5, rfl, hP5, F5⟩; have HP5 := hide hP5; have HG5 := hide (HF3.out.trans F5 (fun _ _ e => e)); have HR5 := hide (HR3.out.plainP.frP F5); clear hP5 F5)
    | (have hx := HB2; clear hx; go_at_call_of 9 (Value.slice ao ps.length ca); refine (HKG.out _ HF2.out).mono ?_; rintro e3 w3 ⟨G, cap, xs, L, rfl, hA⟩; obtain ⟨co, cc, ka, kc, na, nc, hsv, ⟨z0, z1, z2, z3, z4, z5, z6⟩, hfz, ho1, ho2, hn1, hn2⟩ := hA.at HJ.out; have fz := hfz (j * 7 + 3); rw [← HPE.out] at hsv z0 z1 z2 z3 z4 z5 z6 ho1 ho2 hn1 hn2; have hcap : ps.length ≤ cap ∧ cap ≤ 9223372036854775807 := (by have := hA.cells HJ.out; exact ⟨this.2.2.2.2.1, this.2.2.2.2.2⟩); have HO1 := hide ho1; have HO2 := hide ho2; have HN1 := hide hn1; have HN2 := hide hn2; have HSV := hide hsv; have HA := hide hA; have HGL : Hid (G < w3.heap.size) := (hA.own.lt G rfl).2; have HLJ : Hid (w2.heap.size ≤ L j) := (Nat.le_trans hA.lo (hA.mono j (by omega)).1); clear hA hfz ho1 ho2 hn1 hn2 hsv)
    | (go_at_call_of 9 (Value.slice ao ps.length ca); refine HKC.out.mono ?_; rintro e1 w1 ⟨v1, rfl, hC1, F1⟩; have HC1 := hide hC1; have HF1 := hide F1; clear hC1 F1)
    | (have hx := HP5; clear hx; go_at_call 8; refine (K6.out _ _ HP5.out).mono ?_; rintro e6 w6 ⟨a6, c6, rfl, hb6, F6⟩; have HB6 := hide hb6; have HG6 := hide (HG5.out.trans F6 (fun _ _ e => e)); have HR6 := hide (HR5.out.frP F6); clear F6 hb6)
    | (go_at_call 8; refine (HKW.out _ _ HC1.out).mono ?_; rintro e2 w2 ⟨a2, c2, rfl, hb2, F2⟩; have HB2 := hide hb2; have HF2 := hide (HF1.out.trans F2 (fun _ _ e => e)); clear F2 hb2)
    | (go_at_call_of 17 (Value.int IntKind.i64 at'); refine (HP1.out _).mono ?_; rintro e7 w7 ⟨rfl, hw⟩; replace hw := hw.symm; subst hw)
    | (go_at_call_of 17 (Value.int IntKind.i64 what); refine (HP2.out _).mono ?_; rintro e7 w7 ⟨rfl, hw⟩; replace hw := hw.symm; subst hw)
    | (go_at_call_of 17 (Value.int IntKind.i64 vv); refine (HP3.out _).mono ?_; rintro e7 w7 ⟨rfl, hw⟩; replace hw := hw.symm; subst hw)
    | (go_at_call 11; refine (K7.out _ _ _ _ _ (HB2.out.fr HG6.out) HB6.out).mono ?_; rintro e7 w7 ⟨rfl, hw⟩; replace hw := hw.symm; subst hw)
    | (go_at_call 16; refine (K8.out _ (HF2.out.trans HG6.out (fun _ _ e => e)) _ _ HR6.out).mono ?_; rintro e8 w8 ⟨r, rfl, hr8, U8⟩; have hrx : r = x1 := (Bool.eq_iff_iff.2 (hr8.trans HX.out.symm)); subst hrx; have HF8 := hide ((HF2.out.trans HG6.out (fun _ _ e => e)).trans (Up.frw' U8) (fun _ _ e => e)); clear hr8 U8)
    | (go_at_call 12; refine (HKA.out _).mono ?_; rintro e9 w9 ⟨rfl, F9⟩; have HF9 := hide (HF8.out.trans F9 (fun _ _ e => e)); clear F9))
  go_ret
  exact ⟨rfl, HF9.out⟩

set_option maxRecDepth 100000 in
set_option maxHeartbeats 8000000 in
theorem apart_4 {N : Nat} (w : World) (ps : List (PC N)) (v : Value) (what at' vv : Int) (hr : RowD w (PCellN w) v ps) (hB : (ps.map pbk).sum + 1 ≤ 1048576) (hm : mayW ps = true) (j k : Nat) (hj : j < ps.length) (_hk : k < 300) (hP1 : ∀ W, Calls Try.prog 17 #[.int .i64 at', .int .i64 (ps.length : Int)] W fun e w' => e = .returned (.int .i64 (j : Int)) ∧ w' = W) (hP2 : ∀ W, Calls Try.prog 17 #[.int .i64 what, .int .i64 6] W fun e w' => e = .returned (.int .i64 4) ∧ w' = W)
    (hP3 : ∀ W, Calls Try.prog 17 #[.int .i64 vv, .int .i64 300] W fun e w' => e = .returned (.int .i64 (k : Int)) ∧ w' = W) :
    Calls Try.prog 7 #[v, .int .i64 what, .int .i64 at', .int .i64 vv] w fun e w' => e = .returned (.bool true) ∧ Fr (fun _ => False) w w' := by
  obtain ⟨b1, b2⟩ := bulk_parts hB
  have hpg := pg_len ps
  have hgj : goodP ps[j] = true := by
    unfold mayW at hm
    rw [Bool.and_eq_true] at hm
    exact List.all_eq_true.1 hm.1 _ (List.getElem_mem hj)
  have hnf : 0 ≤ ps[j].free ∧ ps[j].free ≤ 1099511627776 := by
    simp only [goodP, Bool.and_eq_true] at hgj
    exact num_le hgj.2.1
  have htd : 0 ≤ ps[j].free.tdiv 2 ∧ ps[j].free.tdiv 2 ≤ 1099511627776 := by
    rw [Int.tdiv_eq_ediv_of_nonneg hnf.1]
    omega
  have hsz0 : ps[j].nm.size ≤ 1048576 := by
    have := mem_sum pbk (List.getElem_mem hj)
    unfold pbk at this hB
    omega
  have HT := hide (turned_of ps j hj { ps[j] with ns := ps[j].ns ++ [⟨#[]⟩] } hB hm rfl (.inl rfl) (.inr (by simp only [List.length_append, List.length_cons, List.length_nil]; omega)) (by exact hgj) (by unfold pbk; simp only [List.map_append, List.sum_append, List.map_cons, List.map_nil, List.sum_cons, List.sum_nil]; have : (⟨#[]⟩ : ByteArray).size = 0 := rfl; omega) (fun e => turn_names _ _ (by have := b1 _ (List.getElem_mem hj); omega) e))
  have HKC := hide (copyP_any w ps v hr (fun p hp => by have := b1 p hp; omega) (by omega))
  have HKG := hide (fun (W : World) (F : Fr (fun _ => False) w W) => copyG W ps v (hr.frN F) (fun p hp => by have := b1 p hp; omega) (by omega) (by omega))
  have HKW := hide (fun (W : World) (v' : Value) (h : RowD W (PCell W) v' ps) => writeT (by omega) W v' h)
  rw [hm] at HKW
  have HR := hide hr.plainP
  obtain ⟨ao, ca, rfl⟩ := hr.shape
  obtain ⟨qs, hqs⟩ : ∃ qs, qs = ps.set j { ps[j] with ns := ps[j].ns ++ [⟨#[]⟩] } := ⟨_, rfl⟩
  rw [← hqs] at HT
  obtain ⟨x1, hx1⟩ : ∃ x : Bool, x = ((strL (pgB ps)).toList == (strL (pgB qs)).toList) := ⟨_, rfl⟩
  have hxs := HT.out.same
  rw [← hx1] at hxs
  have HX := hide hxs
  have K5 := hide (fun (W : World) (v' : Value) (h : RowD W (PCellN W) v' qs) => copyP_any W qs v' h HT.out.bd (by rw [HT.out.len]; omega))
  have K6 := hide (fun (W : World) (v' : Value) (h : RowD W (PCell W) v' qs) => writeT HT.out.pg W v' h)
  rw [HT.out.may] at K6
  obtain ⟨T1, hT1⟩ : ∃ T, T = pgB ps := ⟨_, rfl⟩
  obtain ⟨T2, hT2⟩ : ∃ T, T = pgB qs := ⟨_, rfl⟩
  have K7 := hide (fun (W : World) (a b : Value) (A B : Nat) (ha : ByAt W A a T1) (hb : ByAt W B b T2) => show Calls Try.prog 11 #[a, b] W fun e w' => e = .returned (.bool x1) ∧ w' = W by rw [hx1, ← hT1, ← hT2]; exact sameBy_two W a b A B T1 T2 ha hb)
  have K8 := hide (fun (W : World) (F : Fr (fun _ => False) w W) (G cap : Nat) (h : RowD W (PCell W) (.slice (some ⟨G, 0, none⟩) ps.length cap) qs) => sameP_any W ps qs ao (some ⟨G, 0, none⟩) ca cap ps.length (HR.out.frP F) h rfl HT.out.len (by omega) HT.out.ks HT.out.cd HT.out.ns)
  simp only [if_true] at HKW K6
  rw [← hT1] at HKW
  rw [← hT2] at K6
  have hxx : (x1 == x1) = true := beq_self_eq_true _
  have HKA := hide (fun (W : World) => awake_any W)
  have HQ := hide hqs
  have HJ := hide hj
  have HP1 := hide hP1
  have HP2 := hide hP2
  have HP3 := hide hP3
  have g0 : ((ps.length : Int) == 0) = false := by rw [beq_eq_false_iff_ne]; omega
  have hjI : (j : Int) < (ps.length : Int) := by omega
  have hlN : ps.length ≤ 1048576 := b2
  have HBD := hide (b1 _ (List.getElem_mem hj))
  have HFR := hide hnf
  clear hr hB hm b1 b2 hpg hgj hqs hx1 hxs hT1 hT2 hP1 hP2 hP3 hnf
  obtain ⟨p, hp⟩ : ∃ p, p = ps[j]'HJ.out := ⟨_, rfl⟩
  have HPE := hide hp
  have hcl : p.ns.length ≤ 1048576 := by rw [hp]; exact HBD.out.2.1
  obtain ⟨iS, hiS, zS0, zS1, zS2⟩ := info_parts infoSt
  clear hp htd hsz0
  go_enter Try.func7, Try.ntmps7
  go_wp2_with (first
    | (have hx := HA; clear hx; go_at_call 9; have R3 : RowD (w9.setCell ⟨G, j * 7 + 6, none⟩ (.slice (some ⟨g9, 0, none⟩) (p.ns.length + 1) cap9)) (PCellN (w9.setCell ⟨G, j * 7 + 6, none⟩ (.slice (some ⟨g9, 0, none⟩) (p.ns.length + 1) cap9))) (.slice (some ⟨G, 0, none⟩) ps.length cap) qs := (by have hpe := HPE.out; subst hpe; rw [HQ.out]; exact HA.out.names HJ.out HSV.out ⟨#[]⟩ HO9.out HK9.out HT9.out); have HF3 : Hid (Fr (fun _ => False) w2 (w9.setCell ⟨G, j * 7 + 6, none⟩ (.slice (some ⟨g9, 0, none⟩) (p.ns.length + 1) cap9))) := hide (HFA.out.setCell (fun e => (by have := HA.out.own.lt G rfl; omega)) _ _); refine (K5.out _ _ R3).mono ?_; have HR3 := hide R3; clear R3; rintro e5 w5 ⟨v5, rfl, hP5, F5⟩; have HP5 := hide hP5; have HG5 := hide (HF3.out.trans F5 (fun _ _ e => e)); have HR5 := hide (HR3.out.plainP.frP F5); clear hP5 F5)
    | (have hx := HB2; clear hx; go_at_call_of 9 (Value.slice ao ps.length ca); refine (HKG.out _ HF2.out).mono ?_; rintro e3 w3 ⟨G, cap, xs, L, rfl, hA⟩; obtain ⟨co, cc, ka, kc, na, nc, hsv, ⟨z0, z1, z2, z3, z4, z5, z6⟩, hfz, ho1, ho2, hn1, hn2⟩ := hA.at HJ.out; have fz := hfz (j * 7 + 6); rw [← HPE.out] at hsv z0 z1 z2 z3 z4 z5 z6 ho1 ho2 hn1 hn2; have hcap : ps.length ≤ cap ∧ cap ≤ 9223372036854775807 := (by have := hA.cells HJ.out; exact ⟨this.2.2.2.2.1, this.2.2.2.2.2⟩); have HO1 := hide ho1; have HO2 := hide ho2; have HN1 := hide hn1; have HN2 := hide hn2; have HSV := hide hsv; have HA := hide hA; have HGL : Hid (G < w3.heap.size) := (hA.own.lt G rfl).2; have HLJ : Hid (w2.heap.size ≤ L j) := (Nat.le_trans hA.lo (hA.mono j (by omega)).1); clear hA hfz ho1 ho2 hn1 hn2 hsv)
    | (go_at_call_of 9 (Value.slice ao ps.length ca); refine HKC.out.mono ?_; rintro e1 w1 ⟨v1, rfl, hC1, F1⟩; have HC1 := hide hC1; have HF1 := hide F1; clear hC1 F1)
    | (have hx := HP5; clear hx; go_at_call 8; refine (K6.out _ _ HP5.out).mono ?_; rintro e6 w6 ⟨a6, c6, rfl, hb6, F6⟩; have HB6 := hide hb6; have HG6 := hide (HG5.out.trans F6 (fun _ _ e => e)); have HR6 := hide (HR5.out.frP F6); clear F6 hb6)
    | (go_at_call 8; refine (HKW.out _ _ HC1.out).mono ?_; rintro e2 w2 ⟨a2, c2, rfl, hb2, F2⟩; have HB2 := hide hb2; have HF2 := hide (HF1.out.trans F2 (fun _ _ e => e)); clear F2 hb2)
    | (go_at_call_of 17 (Value.int IntKind.i64 at'); refine (HP1.out _).mono ?_; rintro e7 w7 ⟨rfl, hw⟩; replace hw := hw.symm; subst hw)
    | (go_at_call_of 17 (Value.int IntKind.i64 what); refine (HP2.out _).mono ?_; rintro e7 w7 ⟨rfl, hw⟩; replace hw := hw.symm; subst hw)
    | (go_at_call_of 17 (Value.int IntKind.i64 vv); refine (HP3.out _).mono ?_; rintro e7 w7 ⟨rfl, hw⟩; replace hw := hw.symm; subst hw)
    | (go_at_call 11; refine (K7.out _ _ _ _ _ (HB2.out.fr HG6.out) HB6.out).mono ?_; rintro e7 w7 ⟨rfl, hw⟩; replace hw := hw.symm; subst hw)
    | (go_at_call 16; refine (K8.out _ (HF2.out.trans HG6.out (fun _ _ e => e)) _ _ HR6.out).mono ?_; rintro e8 w8 ⟨r, rfl, hr8, U8⟩; have hrx : r = x1 := (Bool.eq_iff_iff.2 (hr8.trans HX.out.symm)); subst hrx; have HF8 := hide ((HF2.out.trans HG6.out (fun _ _ e => e)).trans (Up.frw' U8) (fun _ _ e => e)); clear hr8 U8)
    | (go_at_call 12; refine (HKA.out _).mono ?_; rintro e9 w9 ⟨rfl, F9⟩; have HF9 := hide (HF8.out.trans F9 (fun _ _ e => e)); clear F9)
    | (at_builtin; refine wpList_append_lies _ rfl _ _ 46 rfl 0 9 iS _ 1 16 Try.underlying46 hiS zS0 zS1 zS2 rfl (by decide) _ p.ns.length (cN p.ns) rfl (World.ownsRow.alloc (w := w3) (own_le HO2.out (Nat.zero_le _)) _) ⟨w3.heap.size, 0, none⟩ 1 1 [.string ⟨#[]⟩] rfl rfl (cells_onex w3 _ _) (by intro u hu; simp at hu; first | (subst hu; rfl) | (rcases hu with rfl | rfl | rfl <;> rfl)) (by decide) (by unfold maxLen; omega) (by omega) (Nat.zero_le _) (w3.heap.size + 1) (by simp) ?_; intro g9 cap9 w9 hown9 hgrow9 hat9 _; have HK9 : Hid (∀ q, q < w3.heap.size → some q ≠ (Value.slice na p.ns.length nc).ownBlock → w9.heap[q]? = w3.heap[q]?) := (fun q hq hne => (hgrow9.block q (by simp; omega) hne).trans (heap_alloc_old _ _ hq)); have HG9 := hide (HK9.out G HGL.out (fun e => HN2.out e.symm)); have z9 := (World.cell?_of_block (a := ⟨G, j * 7 + 6, none⟩) HG9.out).trans z6; have f9 := (World.frozen?_of_block (a := ⟨G, j * 7 + 6, none⟩) HG9.out).trans fz; have HFA : Hid (Fr (fun _ => False) w2 w9) := ((HA.out.fr.alloc _).grow hgrow9 (fun q hq e => (by have := HO2.out.lt q e; have := HLJ.out; omega))); have HO9 := hide hown9; have HT9 : Hid ((Value.slice na p.ns.length nc).ownBlock = some g9 ∨ w3.heap.size ≤ g9) := (hat9.imp id (fun e => by omega)); clear hown9 hgrow9 hat9))
  go_ret
  exact ⟨rfl, HF9.out⟩

set_option maxRecDepth 100000 in
set_option maxHeartbeats 8000000 in
theorem apart_5 {N : Nat} (w : World) (ps : List (PC N)) (v : Value) (what at' vv : Int) (hr : RowD w (PCellN w) v ps) (hB : (ps.map pbk).sum + 1 ≤ 1048576) (hm : mayW ps = true) (j k : Nat) (hj : j < ps.length) (_hk : k < 300) (hP1 : ∀ W, Calls Try.prog 17 #[.int .i64 at', .int .i64 (ps.length : Int)] W fun e w' => e = .returned (.int .i64 (j : Int)) ∧ w' = W) (hP2 : ∀ W, Calls Try.prog 17 #[.int .i64 what, .int .i64 6] W fun e w' => e = .returned (.int .i64 5) ∧ w' = W)
    (hP3 : ∀ W, Calls Try.prog 17 #[.int .i64 vv, .int .i64 300] W fun e w' => e = .returned (.int .i64 (k : Int)) ∧ w' = W) :
    Calls Try.prog 7 #[v, .int .i64 what, .int .i64 at', .int .i64 vv] w fun e w' => e = .returned (.bool true) ∧ Fr (fun _ => False) w w' := by
  obtain ⟨b1, b2⟩ := bulk_parts hB
  have hpg := pg_len ps
  have hgj : goodP ps[j] = true := by
    unfold mayW at hm
    rw [Bool.and_eq_true] at hm
    exact List.all_eq_true.1 hm.1 _ (List.getElem_mem hj)
  have hnf : 0 ≤ ps[j].free ∧ ps[j].free ≤ 1099511627776 := by
    simp only [goodP, Bool.and_eq_true] at hgj
    exact num_le hgj.2.1
  have htd : 0 ≤ ps[j].free.tdiv 2 ∧ ps[j].free.tdiv 2 ≤ 1099511627776 := by
    rw [Int.tdiv_eq_ediv_of_nonneg hnf.1]
    omega
  have hsz0 : ps[j].nm.size ≤ 1048576 := by
    have := mem_sum pbk (List.getElem_mem hj)
    unfold pbk at this hB
    omega
  have HT := hide (turned_of ps j hj { ps[j] with free := ps[j].free.tdiv 2 } hB hm rfl (.inl rfl) (.inl rfl) (by simp only [goodP, Bool.and_eq_true] at hgj ⊢; exact ⟨hgj.1, by simp [isNum]; omega, hgj.2.2⟩) (by unfold pbk; simp only; omega) (fun e => turn_free _ _ hgj ⟨by omega, by omega⟩ e))
  have HKC := hide (copyP_any w ps v hr (fun p hp => by have := b1 p hp; omega) (by omega))
  have HKG := hide (fun (W : World) (F : Fr (fun _ => False) w W) => copyG W ps v (hr.frN F) (fun p hp => by have := b1 p hp; omega) (by omega) (by omega))
  have HKW := hide (fun (W : World) (v' : Value) (h : RowD W (PCell W) v' ps) => writeT (by omega) W v' h)
  rw [hm] at HKW
  have HR := hide hr.plainP
  obtain ⟨ao, ca, rfl⟩ := hr.shape
  obtain ⟨qs, hqs⟩ : ∃ qs, qs = ps.set j { ps[j] with free := ps[j].free.tdiv 2 } := ⟨_, rfl⟩
  rw [← hqs] at HT
  obtain ⟨x1, hx1⟩ : ∃ x : Bool, x = ((strL (pgB ps)).toList == (strL (pgB qs)).toList) := ⟨_, rfl⟩
  have hxs := HT.out.same
  rw [← hx1] at hxs
  have HX := hide hxs
  have K5 := hide (fun (W : World) (v' : Value) (h : RowD W (PCellN W) v' qs) => copyP_any W qs v' h HT.out.bd (by rw [HT.out.len]; omega))
  have K6 := hide (fun (W : World) (v' : Value) (h : RowD W (PCell W) v' qs) => writeT HT.out.pg W v' h)
  rw [HT.out.may] at K6
  obtain ⟨T1, hT1⟩ : ∃ T, T = pgB ps := ⟨_, rfl⟩
  obtain ⟨T2, hT2⟩ : ∃ T, T = pgB qs := ⟨_, rfl⟩
  have K7 := hide (fun (W : World) (a b : Value) (A B : Nat) (ha : ByAt W A a T1) (hb : ByAt W B b T2) => show Calls Try.prog 11 #[a, b] W fun e w' => e = .returned (.bool x1) ∧ w' = W by rw [hx1, ← hT1, ← hT2]; exact sameBy_two W a b A B T1 T2 ha hb)
  have K8 := hide (fun (W : World) (F : Fr (fun _ => False) w W) (G cap : Nat) (h : RowD W (PCell W) (.slice (some ⟨G, 0, none⟩) ps.length cap) qs) => sameP_any W ps qs ao (some ⟨G, 0, none⟩) ca cap ps.length (HR.out.frP F) h rfl HT.out.len (by omega) HT.out.ks HT.out.cd HT.out.ns)
  simp only [if_true] at HKW K6
  rw [← hT1] at HKW
  rw [← hT2] at K6
  have hxx : (x1 == x1) = true := beq_self_eq_true _
  have HKA := hide (fun (W : World) => awake_any W)
  have HQ := hide hqs
  have HJ := hide hj
  have HP1 := hide hP1
  have HP2 := hide hP2
  have HP3 := hide hP3
  have g0 : ((ps.length : Int) == 0) = false := by rw [beq_eq_false_iff_ne]; omega
  have hjI : (j : Int) < (ps.length : Int) := by omega
  have hlN : ps.length ≤ 1048576 := b2
  have HBD := hide (b1 _ (List.getElem_mem hj))
  have HFR := hide hnf
  clear hr hB hm b1 b2 hpg hgj hqs hx1 hxs hT1 hT2 hP1 hP2 hP3 hnf
  obtain ⟨p, hp⟩ : ∃ p, p = ps[j]'HJ.out := ⟨_, rfl⟩
  have HPE := hide hp
  have hwd : wrap64 (p.free.tdiv 2) = p.free.tdiv 2 := by
    rw [hp]
    unfold wrap64
    omega
  clear hp htd hsz0
  go_enter Try.func7, Try.ntmps7
  go_wp2_with (first
    | (have hx := HA; clear hx; go_at_call 9; have R3 : RowD (w3.setCell ⟨G, j * 7 + 2, none⟩ (.int .i64 (p.free.tdiv 2))) (PCellN (w3.setCell ⟨G, j * 7 + 2, none⟩ (.int .i64 (p.free.tdiv 2)))) (.slice (some ⟨G, 0, none⟩) ps.length cap) qs := (by rw [HQ.out, HPE.out]; exact HA.out.field HJ.out (f := 2) (by decide) (.int .i64 ((ps[j]'HJ.out).free.tdiv 2)) { (ps[j]'HJ.out) with free := (ps[j]'HJ.out).free.tdiv 2 } ⟨rfl, rfl, rfl⟩ rfl); have HF3 : Hid (Fr (fun _ => False) w2 (w3.setCell ⟨G, j * 7 + 2, none⟩ (.int .i64 (p.free.tdiv 2)))) := hide (HA.out.fr3 _ _); refine (K5.out _ _ R3).mono ?_; have HR3 := hide R3; clear R3; rintro e5 w5 ⟨v5, rfl, hP5, F5⟩; have HP5 := hide hP5; have HG5 := hide (HF3.out.trans F5 (fun _ _ e => e)); have HR5 := hide (HR3.out.plainP.frP F5); clear hP5 F5)
    | (have hx := HB2; clear hx; go_at_call_of 9 (Value.slice ao ps.length ca); refine (HKG.out _ HF2.out).mono ?_; rintro e3 w3 ⟨G, cap, xs, L, rfl, hA⟩; obtain ⟨co, cc, ka, kc, na, nc, hsv, ⟨z0, z1, z2, z3, z4, z5, z6⟩, hfz, ho1, ho2, hn1, hn2⟩ := hA.at HJ.out; have fz := hfz (j * 7 + 2); rw [← HPE.out] at hsv z0 z1 z2 z3 z4 z5 z6 ho1 ho2 hn1 hn2; have hcap : ps.length ≤ cap ∧ cap ≤ 9223372036854775807 := (by have := hA.cells HJ.out; exact ⟨this.2.2.2.2.1, this.2.2.2.2.2⟩); have HO1 := hide ho1; have HO2 := hide ho2; have HN1 := hide hn1; have HN2 := hide hn2; have HSV := hide hsv; have HA := hide hA; have HGL : Hid (G < w3.heap.size) := (hA.own.lt G rfl).2; have HLJ : Hid (w2.heap.size ≤ L j) := (Nat.le_trans hA.lo (hA.mono j (by omega)).1); clear hA hfz ho1 ho2 hn1 hn2 hsv)
    | (go_at_call_of 9 (Value.slice ao ps.length ca); refine HKC.out.mono ?_; rintro e1 w1 ⟨v1, rfl, hC1, F1⟩; have HC1 := hide hC1; have HF1 := hide F1; clear hC1 F1)
    | (have hx := HP5; clear hx; go_at_call 8; refine (K6.out _ _ HP5.out).mono ?_; rintro e6 w6 ⟨a6, c6, rfl, hb6, F6⟩; have HB6 := hide hb6; have HG6 := hide (HG5.out.trans F6 (fun _ _ e => e)); have HR6 := hide (HR5.out.frP F6); clear F6 hb6)
    | (go_at_call 8; refine (HKW.out _ _ HC1.out).mono ?_; rintro e2 w2 ⟨a2, c2, rfl, hb2, F2⟩; have HB2 := hide hb2; have HF2 := hide (HF1.out.trans F2 (fun _ _ e => e)); clear F2 hb2)
    | (go_at_call_of 17 (Value.int IntKind.i64 at'); refine (HP1.out _).mono ?_; rintro e7 w7 ⟨rfl, hw⟩; replace hw := hw.symm; subst hw)
    | (go_at_call_of 17 (Value.int IntKind.i64 what); refine (HP2.out _).mono ?_; rintro e7 w7 ⟨rfl, hw⟩; replace hw := hw.symm; subst hw)
    | (go_at_call_of 17 (Value.int IntKind.i64 vv); refine (HP3.out _).mono ?_; rintro e7 w7 ⟨rfl, hw⟩; replace hw := hw.symm; subst hw)
    | (go_at_call 11; refine (K7.out _ _ _ _ _ (HB2.out.fr HG6.out) HB6.out).mono ?_; rintro e7 w7 ⟨rfl, hw⟩; replace hw := hw.symm; subst hw)
    | (go_at_call 16; refine (K8.out _ (HF2.out.trans HG6.out (fun _ _ e => e)) _ _ HR6.out).mono ?_; rintro e8 w8 ⟨r, rfl, hr8, U8⟩; have hrx : r = x1 := (Bool.eq_iff_iff.2 (hr8.trans HX.out.symm)); subst hrx; have HF8 := hide ((HF2.out.trans HG6.out (fun _ _ e => e)).trans (Up.frw' U8) (fun _ _ e => e)); clear hr8 U8)
    | (go_at_call 12; refine (HKA.out _).mono ?_; rintro e9 w9 ⟨rfl, F9⟩; have HF9 := hide (HF8.out.trans F9 (fun _ _ e => e)); clear F9))
  go_ret
  exact ⟨rfl, HF9.out⟩

set_option maxRecDepth 100000 in
set_option maxHeartbeats 8000000 in
theorem apart_3 {N : Nat} (w : World) (ps : List (PC N)) (v : Value) (what at' vv : Int) (hr : RowD w (PCellN w) v ps) (hB : (ps.map pbk).sum + 1 ≤ 1048576) (hm : mayW ps = true) (j k : Nat) (hj : j < ps.length) (hk : k < 300) (hP1 : ∀ W, Calls Try.prog 17 #[.int .i64 at', .int .i64 (ps.length : Int)] W fun e w' => e = .returned (.int .i64 (j : Int)) ∧ w' = W) (hP2 : ∀ W, Calls Try.prog 17 #[.int .i64 what, .int .i64 6] W fun e w' => e = .returned (.int .i64 3) ∧ w' = W)
    (hP3 : ∀ W, Calls Try.prog 17 #[.int .i64 vv, .int .i64 300] W fun e w' => e = .returned (.int .i64 (k : Int)) ∧ w' = W) :
    Calls Try.prog 7 #[v, .int .i64 what, .int .i64 at', .int .i64 vv] w fun e w' => e = .returned (.bool true) ∧ Fr (fun _ => False) w w' := by
  obtain ⟨b1, b2⟩ := bulk_parts hB
  have hpg := pg_len ps
  have hgj : goodP ps[j] = true := by
    unfold mayW at hm
    rw [Bool.and_eq_true] at hm
    exact List.all_eq_true.1 hm.1 _ (List.getElem_mem hj)
  have hnf : 0 ≤ ps[j].free ∧ ps[j].free ≤ 1099511627776 := by
    simp only [goodP, Bool.and_eq_true] at hgj
    exact num_le hgj.2.1
  have htd : 0 ≤ ps[j].free.tdiv 2 ∧ ps[j].free.tdiv 2 ≤ 1099511627776 := by
    rw [Int.tdiv_eq_ediv_of_nonneg hnf.1]
    omega
  have hsz0 : ps[j].nm.size ≤ 1048576 := by
    have := mem_sum pbk (List.getElem_mem hj)
    unfold pbk at this hB
    omega
  have htm : -1000 < vv.tmod 1000 ∧ vv.tmod 1000 < 1000 := ⟨Int.lt_tmod_of_pos vv (by decide), Int.tmod_lt_of_pos vv (by decide)⟩
  have HT := hide (turned_of ps j hj { ps[j] with code := ps[j].code ++ [((k : Int), vv.tmod 1000, (0 : Int))] } hB hm rfl (.inr (by simp only [List.length_append, List.length_cons, List.length_nil]; omega)) (.inl rfl) (by simp only [goodP, Bool.and_eq_true] at hgj ⊢; refine ⟨hgj.1, hgj.2.1, ?_, hgj.2.2.2⟩; rw [List.all_append, hgj.2.2.1]; simp [goodI, isNum, half]; exact ⟨by omega, by omega, by omega⟩) (by unfold pbk; simp only [List.length_append, List.length_cons, List.length_nil]; omega) (fun e => turn_code _ _ (by have := b1 _ (List.getElem_mem hj); omega) e))
  have HKC := hide (copyP_any w ps v hr (fun p hp => by have := b1 p hp; omega) (by omega))
  have HKG := hide (fun (W : World) (F : Fr (fun _ => False) w W) => copyG W ps v (hr.frN F) (fun p hp => by have := b1 p hp; omega) (by omega) (by omega))
  have HKW := hide (fun (W : World) (v' : Value) (h : RowD W (PCell W) v' ps) => writeT (by omega) W v' h)
  rw [hm] at HKW
  have HR := hide hr.plainP
  obtain ⟨ao, ca, rfl⟩ := hr.shape
  obtain ⟨qs, hqs⟩ : ∃ qs, qs = ps.set j { ps[j] with code := ps[j].code ++ [((k : Int), vv.tmod 1000, (0 : Int))] } := ⟨_, rfl⟩
  rw [← hqs] at HT
  obtain ⟨x1, hx1⟩ : ∃ x : Bool, x = ((strL (pgB ps)).toList == (strL (pgB qs)).toList) := ⟨_, rfl⟩
  have hxs := HT.out.same
  rw [← hx1] at hxs
  have HX := hide hxs
  have K5 := hide (fun (W : World) (v' : Value) (h : RowD W (PCellN W) v' qs) => copyP_any W qs v' h HT.out.bd (by rw [HT.out.len]; omega))
  have K6 := hide (fun (W : World) (v' : Value) (h : RowD W (PCell W) v' qs) => writeT HT.out.pg W v' h)
  rw [HT.out.may] at K6
  obtain ⟨T1, hT1⟩ : ∃ T, T = pgB ps := ⟨_, rfl⟩
  obtain ⟨T2, hT2⟩ : ∃ T, T = pgB qs := ⟨_, rfl⟩
  have K7 := hide (fun (W : World) (a b : Value) (A B : Nat) (ha : ByAt W A a T1) (hb : ByAt W B b T2) => show Calls Try.prog 11 #[a, b] W fun e w' => e = .returned (.bool x1) ∧ w' = W by rw [hx1, ← hT1, ← hT2]; exact sameBy_two W a b A B T1 T2 ha hb)
  have K8 := hide (fun (W : World) (F : Fr (fun _ => False) w W) (G cap : Nat) (h : RowD W (PCell W) (.slice (some ⟨G, 0, none⟩) ps.length cap) qs) => sameP_any W ps qs ao (some ⟨G, 0, none⟩) ca cap ps.length (HR.out.frP F) h rfl HT.out.len (by omega) HT.out.ks HT.out.cd HT.out.ns)
  simp only [if_true] at HKW K6
  rw [← hT1] at HKW
  rw [← hT2] at K6
  have hxx : (x1 == x1) = true := beq_self_eq_true _
  have HKA := hide (fun (W : World) => awake_any W)
  have HQ := hide hqs
  have HJ := hide hj
  have HP1 := hide hP1
  have HP2 := hide hP2
  have HP3 := hide hP3
  have g0 : ((ps.length : Int) == 0) = false := by rw [beq_eq_false_iff_ne]; omega
  have hjI : (j : Int) < (ps.length : Int) := by omega
  have hlN : ps.length ≤ 1048576 := b2
  have HBD := hide (b1 _ (List.getElem_mem hj))
  have HFR := hide hnf
  clear hr hB hm b1 b2 hpg hgj hqs hx1 hxs hT1 hT2 hP1 hP2 hP3 hnf
  obtain ⟨p, hp⟩ : ∃ p, p = ps[j]'HJ.out := ⟨_, rfl⟩
  have HPE := hide hp
  have hcl : p.code.length ≤ 1048576 := by rw [hp]; exact HBD.out.1
  obtain ⟨iI, hiI, zI0, zI1, zI2⟩ := info_parts infoIn
  clear hp htd hsz0
  go_enter Try.func7, Try.ntmps7
  go_upto_region 14 with (first
    | (have hx := HA; clear hx; go_at_call 9; have R3 : RowD (w9.setCell ⟨G, j * 7 + 4, none⟩ (.slice (some ⟨g9, 0, none⟩) (p.code.length + 1) cap9)) (PCellN (w9.setCell ⟨G, j * 7 + 4, none⟩ (.slice (some ⟨g9, 0, none⟩) (p.code.length + 1) cap9))) (.slice (some ⟨G, 0, none⟩) ps.length cap) qs := (by have hpe := HPE.out; subst hpe; rw [HQ.out]; exact HA.out.code HJ.out HSV.out ((k : Int), vv.tmod 1000, (0 : Int)) HO9.out HK9.out HT9.out); have HF3 : Hid (Fr (fun _ => False) w2 (w9.setCell ⟨G, j * 7 + 4, none⟩ (.slice (some ⟨g9, 0, none⟩) (p.code.length + 1) cap9))) := hide (HFA.out.setCell (fun e => (by have := HA.out.own.lt G rfl; omega)) _ _); refine (K5.out _ _ R3).mono ?_; have HR3 := hide R3; clear R3; rintro e5 w5 ⟨v5, rfl, hP5, F5⟩; have HP5 := hide hP5; have HG5 := hide (HF3.out.trans F5 (fun _ _ e => e)); have HR5 := hide (HR3.out.plainP.frP F5); clear hP5 F5)
    | (have hx := HB2; clear hx; go_at_call_of 9 (Value.slice ao ps.length ca); refine (HKG.out _ HF2.out).mono ?_; rintro e3 w3 ⟨G, cap, xs, L, rfl, hA⟩; obtain ⟨co, cc, ka, kc, na, nc, hsv, ⟨z0, z1, z2, z3, z4, z5, z6⟩, hfz, ho1, ho2, hn1, hn2⟩ := hA.at HJ.out; have fz := hfz (j * 7 + 4); rw [← HPE.out] at hsv z0 z1 z2 z3 z4 z5 z6 ho1 ho2 hn1 hn2; have hcap : ps.length ≤ cap ∧ cap ≤ 9223372036854775807 := (by have := hA.cells HJ.out; exact ⟨this.2.2.2.2.1, this.2.2.2.2.2⟩); have HO1 := hide ho1; have HO2 := hide ho2; have HN1 := hide hn1; have HN2 := hide hn2; have HSV := hide hsv; have HA := hide hA; have HGL : Hid (G < w3.heap.size) := (hA.own.lt G rfl).2; have z4b := (World.cell?_of_block (a := ⟨G, j * 7 + 4, none⟩) (heap_alloc_old w3 (.cells #[.int .i64 (k : Int), .int .i64 (vv.tmod 1000), .int .i64 0] 50) HGL.out)).trans z4; have HLJ : Hid (w2.heap.size ≤ L j) := (Nat.le_trans hA.lo (hA.mono j (by omega)).1); clear hA hfz ho1 ho2 hn1 hn2 hsv)
    | (go_at_call_of 9 (Value.slice ao ps.length ca); refine HKC.out.mono ?_; rintro e1 w1 ⟨v1, rfl, hC1, F1⟩; have HC1 := hide hC1; have HF1 := hide F1; clear hC1 F1)
    | (have hx := HP5; clear hx; go_at_call 8; refine (K6.out _ _ HP5.out).mono ?_; rintro e6 w6 ⟨a6, c6, rfl, hb6, F6⟩; have HB6 := hide hb6; have HG6 := hide (HG5.out.trans F6 (fun _ _ e => e)); have HR6 := hide (HR5.out.frP F6); clear F6 hb6)
    | (go_at_call 8; refine (HKW.out _ _ HC1.out).mono ?_; rintro e2 w2 ⟨a2, c2, rfl, hb2, F2⟩; have HB2 := hide hb2; have HF2 := hide (HF1.out.trans F2 (fun _ _ e => e)); clear F2 hb2)
    | (go_at_call_of 17 (Value.int IntKind.i64 at'); refine (HP1.out _).mono ?_; rintro e7 w7 ⟨rfl, hw⟩; replace hw := hw.symm; subst hw)
    | (go_at_call_of 17 (Value.int IntKind.i64 what); refine (HP2.out _).mono ?_; rintro e7 w7 ⟨rfl, hw⟩; replace hw := hw.symm; subst hw)
    | (go_at_call_of 17 (Value.int IntKind.i64 vv); refine (HP3.out _).mono ?_; rintro e7 w7 ⟨rfl, hw⟩; replace hw := hw.symm; subst hw)
    | (go_at_call 11; refine (K7.out _ _ _ _ _ (HB2.out.fr HG6.out) HB6.out).mono ?_; rintro e7 w7 ⟨rfl, hw⟩; replace hw := hw.symm; subst hw)
    | (go_at_call 16; refine (K8.out _ (HF2.out.trans HG6.out (fun _ _ e => e)) _ _ HR6.out).mono ?_; rintro e8 w8 ⟨r, rfl, hr8, U8⟩; have hrx : r = x1 := (Bool.eq_iff_iff.2 (hr8.trans HX.out.symm)); subst hrx; have HF8 := hide ((HF2.out.trans HG6.out (fun _ _ e => e)).trans (Up.frw' U8) (fun _ _ e => e)); clear hr8 U8)
    | (go_at_call 12; refine (HKA.out _).mono ?_; rintro e9 w9 ⟨rfl, F9⟩; have HF9 := hide (HF8.out.trans F9 (fun _ _ e => e)); clear F9))
  go_region_law
    (first
      | (refine step_append_lies _ (by rfl) _ _ 44 (by rfl) 0 50 iI _ 3 24 Try.underlying44 hiI zI0 zI1 zI2 rfl (by decide) _ p.code.length (cI p.code) (by rfl) (World.ownsRow.alloc (w := w3.drew) (own_le HO1.out (Nat.zero_le _)) _) ⟨w3.heap.size, 0, none⟩ 1 1 [.int .i64 (k : Int), .int .i64 (vv.tmod 1000), .int .i64 0] (by rfl) rfl (cells_three w3.drew _ _ _ _) (by intro u hu; simp at hu; first | (subst hu; rfl) | (rcases hu with rfl | rfl | rfl <;> rfl)) (by decide) (by unfold maxLen; omega) (by omega) (Nat.zero_le _) (w3.heap.size + 1) (by simp) ?_; intro g9 cap9 w9 hown9 hgrow9 hat9 _; have HK9 : Hid (∀ q, q < w3.heap.size → some q ≠ (Value.slice co p.code.length cc).ownBlock → w9.heap[q]? = w3.heap[q]?) := (fun q hq hne => (hgrow9.block q (by simp; omega) hne).trans (heap_alloc_old _ _ hq)); have HG9 := hide (HK9.out G HGL.out (fun e => HN1.out e.symm)); have z9 := (World.cell?_of_block (a := ⟨G, j * 7 + 4, none⟩) HG9.out).trans z4; have f9 := (World.frozen?_of_block (a := ⟨G, j * 7 + 4, none⟩) HG9.out).trans fz; have HFA : Hid (Fr (fun _ => False) w2 w9) := ((HA.out.fr.drew.alloc _).grow hgrow9 (fun q hq e => (by have := HO1.out.lt q e; have := HLJ.out; omega))); have HO9 := hide hown9; have HT9 : Hid ((Value.slice co p.code.length cc).ownBlock = some g9 ∨ w3.heap.size ≤ g9) := (hat9.imp id (fun e => by omega)); clear hown9 hgrow9 hat9)
      | (rw [if_pos (by rfl)]; go_simp; refine (HP3.out _).mono ?_; rintro e7 w7 ⟨rfl, hw⟩; replace hw := hw.symm; subst hw))
  all_goals
    go_wp2_with (first
      | (have hx := HA; clear hx; go_at_call 9; have R3 : RowD (w9.setCell ⟨G, j * 7 + 4, none⟩ (.slice (some ⟨g9, 0, none⟩) (p.code.length + 1) cap9)) (PCellN (w9.setCell ⟨G, j * 7 + 4, none⟩ (.slice (some ⟨g9, 0, none⟩) (p.code.length + 1) cap9))) (.slice (some ⟨G, 0, none⟩) ps.length cap) qs := (by have hpe := HPE.out; subst hpe; rw [HQ.out]; exact HA.out.code HJ.out HSV.out ((k : Int), vv.tmod 1000, (0 : Int)) HO9.out HK9.out HT9.out); have HF3 : Hid (Fr (fun _ => False) w2 (w9.setCell ⟨G, j * 7 + 4, none⟩ (.slice (some ⟨g9, 0, none⟩) (p.code.length + 1) cap9))) := hide (HFA.out.setCell (fun e => (by have := HA.out.own.lt G rfl; omega)) _ _); refine (K5.out _ _ R3).mono ?_; have HR3 := hide R3; clear R3; rintro e5 w5 ⟨v5, rfl, hP5, F5⟩; have HP5 := hide hP5; have HG5 := hide (HF3.out.trans F5 (fun _ _ e => e)); have HR5 := hide (HR3.out.plainP.frP F5); clear hP5 F5)
      | (have hx := HB2; clear hx; go_at_call_of 9 (Value.slice ao ps.length ca); refine (HKG.out _ HF2.out).mono ?_; rintro e3 w3 ⟨G, cap, xs, L, rfl, hA⟩; obtain ⟨co, cc, ka, kc, na, nc, hsv, ⟨z0, z1, z2, z3, z4, z5, z6⟩, hfz, ho1, ho2, hn1, hn2⟩ := hA.at HJ.out; have fz := hfz (j * 7 + 4); rw [← HPE.out] at hsv z0 z1 z2 z3 z4 z5 z6 ho1 ho2 hn1 hn2; have hcap : ps.length ≤ cap ∧ cap ≤ 9223372036854775807 := (by have := hA.cells HJ.out; exact ⟨this.2.2.2.2.1, this.2.2.2.2.2⟩); have HO1 := hide ho1; have HO2 := hide ho2; have HN1 := hide hn1; have HN2 := hide hn2; have HSV := hide hsv; have HA := hide hA; have HGL : Hid (G < w3.heap.size) := (hA.own.lt G rfl).2; have z4b := (World.cell?_of_block (a := ⟨G, j * 7 + 4, none⟩) (heap_alloc_old w3 (.cells #[.int .i64 (k : Int), .int .i64 (vv.tmod 1000), .int .i64 0] 50) HGL.out)).trans z4; have HLJ : Hid (w2.heap.size ≤ L j) := (Nat.le_trans hA.lo (hA.mono j (by omega)).1); clear hA hfz ho1 ho2 hn1 hn2 hsv)
      | (go_at_call_of 9 (Value.slice ao ps.length ca); refine HKC.out.mono ?_; rintro e1 w1 ⟨v1, rfl, hC1, F1⟩; have HC1 := hide hC1; have HF1 := hide F1; clear hC1 F1)
      | (have hx := HP5; clear hx; go_at_call 8; refine (K6.out _ _ HP5.out).mono ?_; rintro e6 w6 ⟨a6, c6, rfl, hb6, F6⟩; have HB6 := hide hb6; have HG6 := hide (HG5.out.trans F6 (fun _ _ e => e)); have HR6 := hide (HR5.out.frP F6); clear F6 hb6)
      | (go_at_call 8; refine (HKW.out _ _ HC1.out).mono ?_; rintro e2 w2 ⟨a2, c2, rfl, hb2, F2⟩; have HB2 := hide hb2; have HF2 := hide (HF1.out.trans F2 (fun _ _ e => e)); clear F2 hb2)
      | (go_at_call_of 17 (Value.int IntKind.i64 at'); refine (HP1.out _).mono ?_; rintro e7 w7 ⟨rfl, hw⟩; replace hw := hw.symm; subst hw)
      | (go_at_call_of 17 (Value.int IntKind.i64 what); refine (HP2.out _).mono ?_; rintro e7 w7 ⟨rfl, hw⟩; replace hw := hw.symm; subst hw)
      | (go_at_call_of 17 (Value.int IntKind.i64 vv); refine (HP3.out _).mono ?_; rintro e7 w7 ⟨rfl, hw⟩; replace hw := hw.symm; subst hw)
      | (go_at_call 11; refine (K7.out _ _ _ _ _ (HB2.out.fr HG6.out) HB6.out).mono ?_; rintro e7 w7 ⟨rfl, hw⟩; replace hw := hw.symm; subst hw)
      | (go_at_call 16; refine (K8.out _ (HF2.out.trans HG6.out (fun _ _ e => e)) _ _ HR6.out).mono ?_; rintro e8 w8 ⟨r, rfl, hr8, U8⟩; have hrx : r = x1 := (Bool.eq_iff_iff.2 (hr8.trans HX.out.symm)); subst hrx; have HF8 := hide ((HF2.out.trans HG6.out (fun _ _ e => e)).trans (Up.frw' U8) (fun _ _ e => e)); clear hr8 U8)
      | (go_at_call 12; refine (HKA.out _).mono ?_; rintro e9 w9 ⟨rfl, F9⟩; have HF9 := hide (HF8.out.trans F9 (fun _ _ e => e)); clear F9))
    go_ret
    exact ⟨rfl, HF9.out⟩

end Go.Proofs.Ytilcigjhogcjkaa
