/-
  What is proved here: tandemlaw10.PackRound of any protos and bytes that come in.
-/
import Derived.Test.YtilcigjhogcjkaaLPCuts
import Derived.Test.YtilcigjhogcjkaaPKSp1
namespace Go.Proofs.Ytilcigjhogcjkaa
open Go Go.RowKit

theorem conv_at (W : World) (ad : Addr) (cap : Nat) (l : List Nat) (hc : ∀ j u, (cL l)[j]? = some u → W.cell? (ad.add j) = some u) : (convert 23 9 (.slice (some ad) l.length cap)).run Try.prog W = .ok (.string (strL l)) W := by
  have hl : (loadCells ad l.length).run Try.prog W = .ok ((l.map fun (x : Nat) => (x : Int)).map (Value.int .u8)).toArray W := by
    have := run_loadCells_list (P := Try.prog) W ad (cL l) hc
    rw [cL_len] at this
    rw [this, List.map_map]
    rfl
  rw [run_convert_bytes_string W 23 9 5 _ l.length cap Try.underlying23 Try.underlying5 Try.underlying9, run_bytesToString W _ l.length cap _ hl, foldl_push_bytes]
  simp [strL, strOfNums, ByteArray.empty, ByteArray.emptyWithCapacity]
  rfl
theorem BM.conv {w : World} {ao : Option Addr} {n cap : Nat} {l : List Nat} (h : BM w ao n cap l) : (convert 23 9 (.slice ao n cap)).run Try.prog w = .ok (.string (strL l)) w := by
  obtain ⟨h0, hn, hc⟩ := h
  subst hn
  cases ao with
  | none =>
    obtain ⟨e1, rfl⟩ := h0 rfl
    have hS : l = [] := List.eq_nil_of_length_eq_zero e1
    subst hS
    exact run_convert_bytes_nil w 23 5 Try.underlying23 Try.underlying5 0 0 9 Try.underlying9
  | some ad => exact conv_at w ad cap l (hc ad rfl)
theorem sameBM (w : World) (a : Option Addr) (n c A : Nat) (l : List Nat) (bo : Option Addr) (bn bc : Nat) (ha : ByAt w A (.slice a n c) l) (hb : BM w bo bn bc l) :
    Calls Try.prog 11 #[.slice a n c, .slice bo bn bc] w fun e w' => e = .returned (.bool true) ∧ w' = w := by
  have k1 := ha.conv
  have k2 := hb.conv
  have hs : ((strL l).toList == (strL l).toList) = true := by simp
  clear ha hb
  go_enter Try.func11, Try.ntmps11
  go_wp2
  go_ret
  exact ⟨by simp, rfl⟩
theorem cpyM (w : World) (ao : Option Addr) (n cap : Nat) (l : List Nat) (h : BM w ao n cap l) (hl : l.length ≤ 100000000) :
    Calls Try.prog 14 #[.slice ao n cap] w fun e w' => ∃ v', e = .returned v' ∧ ByAt w' w.heap.size v' l ∧ Fr (fun _ => False) w w' := by
  obtain ⟨iU, hiU, zU0, zU1, zU2⟩ := info_parts infoU8
  obtain ⟨h0, hn, hnews⟩ := h
  have hcl : (cL l).length = n * 1 := by rw [cL_len, hn]; omega
  have hN := hide hn
  clear hn
  go_enter Try.func14, Try.ntmps14
  go_wp2_with (at_builtin; refine wpList_cpy rfl _ _ 23 rfl 5 iU _ 1 1 Try.underlying23 hiU zU0 zU1 zU2 rfl (by decide) rfl ao n cap rfl h0 (cL l) hcl hnews (cL_one _) (by have := hN.out; unfold maxLen; omega) (by have := hN.out; omega) ?_; intro v' w' own F; have HO := hide own; have HF := hide F; clear own F)
  go_ret
  refine ⟨_, rfl, ?_, HF.out⟩
  have := HO.out
  rw [hN.out] at this
  exact this
theorem upFr {a b : World} (h : Up a b) : Fr (fun _ => False) a b := ⟨h.os, h.tape, h.output, h.size, fun k hk _ => h.block k hk⟩
theorem RowD.frP {N : Nat} {w w' : World} {v : Value} {ps : List (PC N)} (h : RowD w (PCell w) v ps) (F : Fr (fun _ => False) w w') : RowD w' (PCell w') v ps := h.up F.upw' (fun _ _ h => h.up F.upw')

set_option maxRecDepth 20000 in
set_option maxHeartbeats 4000000 in
theorem round_walk {N : Nat} (hN : 100 ≤ N) (w : World) (ps : List (PC N)) (v : Value) (mo : Option Addr) (mn mc : Nat) (lm : List Nat) (hr : RowD w (PCellN w) v ps) (hB : (ps.map pbk).sum + 1 ≤ 1048576)
    (hm : BM w mo mn mc lm) (h8m : By8 lm) (hlm : lm.length ≤ 1048576) :
    Calls Try.prog 5 #[v, .slice mo mn mc] w fun e w' => e = .returned (.bool true) ∧ Fr (fun _ => False) w w' := by
  obtain ⟨b1, b2⟩ := bulk_parts hB
  have hpg := pg_len ps
  have HRP := hide (hr.mono (fun _ _ h => h.1) : RowD w (PCell w) v ps)
  have hsz := szP_of HRP.out hB
  have HKC := hide (copyP_any w ps v hr (fun p hp => by have := b1 p hp; omega) (by omega))
  have HKW := hide (fun (W : World) (v' : Value) (h : RowD W (PCell W) v' ps) => writeT (by omega) W v' h)
  obtain ⟨ao, ca, rfl⟩ := hr.shape
  have HKA := hide (fun (W : World) => awake_any W)
  have HM := hide hm
  have H8M := hide h8m
  have hll : lm.length ≤ 100000000 := by omega
  have hpl : ps.length ≤ 9223372036854775807 := by omega
  cases h1 : mayW ps with
  | false =>
    have HF0 : Hid (mayW ps = false) := h1
    rw [h1] at HKW
    simp only [Bool.false_eq_true, if_false] at HKW
    cases hx2 : rdPrg N lm 20000 with
    | none =>
      have HNO := hide hx2
      clear hx2
      clear hr hB b1 b2 hpg hm h1 hsz h8m
      go_enter Try.func5, Try.ntmps5
      go_wp2_with (first
        | (have hx := HB5; go_at_call 13; refine (read_no hN _ _ lm HB5.out.bl H8M.out hll HNO.out).mono ?_; rintro e6 w6 ⟨rfl, F6⟩; have HF6 := hide (HF5.out.trans F6 (fun _ _ e => e)); clear F6)
        | (go_at_call 12; refine (HKA.out _).mono ?_; rintro e9 w9 ⟨rfl, F9⟩; have HF9 := hide (HF6.out.trans F9 (fun _ _ e => e)); clear F9)
        | (go_at_call 14; refine (cpyM _ _ _ _ _ (BM.up HM.out HF2.out.upw') hll).mono ?_; rintro e5 w5 ⟨v5, rfl, hb5, F5⟩; have HB5 := hide hb5; have HF5 := hide (HF2.out.trans F5 (fun _ _ e => e)); clear F5 hb5)
        | (go_at_call 8; refine (HKW.out _ _ HP1.out).mono ?_; rintro e2 w2 ⟨a2, c2, rfl, hb2, F2⟩; have HB2 := hide hb2; have HF2 := hide (HF1.out.trans F2 (fun _ _ e => e)); clear F2 hb2)
        | (go_at_call 9; refine HKC.out.mono ?_; rintro e1 w1 ⟨v1, rfl, hP1, F1⟩; have HP1 := hide hP1; have HF1 := hide F1; clear hP1 F1))
      go_ret
      exact ⟨rfl, HF9.out⟩
    | some qs =>
      obtain ⟨el, hmq⟩ := rdPrg_back h8m hx2
      have HYES := hide hx2
      have HKW2 := hide (fun (W : World) (v' : Value) (h : RowD W (PCell W) v' qs) => writeT (by rw [← el]; omega) W v' h)
      simp only [hmq, if_true, ← el] at HKW2
      clear hx2 el hmq
      clear hr hB b1 b2 hpg hm h1 hsz h8m
      go_enter Try.func5, Try.ntmps5
      go_wp2_with (first
        | (have hx := HQ6; go_at_call 8; refine (HKW2.out _ _ HQ6.out).mono ?_; rintro e7 w7 ⟨a7, c7, rfl, hb7, F7⟩; have HB7 := hide hb7; have HF7 := hide (HF6.out.trans F7 (fun _ _ e => e)); clear F7 hb7)
        | (go_at_call 11; refine (sameBM _ _ _ _ _ lm _ _ _ HB7.out (BM.up HM.out HF7.out.upw')).mono ?_; rintro e8 w8 ⟨rfl, rfl⟩)
        | (have hx := HB5; go_at_call 13; refine (read_yes hN _ _ lm HB5.out.bl H8M.out hll qs HYES.out).mono ?_; rintro e6 w6 ⟨⟨a6, rfl, hq6⟩, F6⟩; have HQ6 := hide hq6; have HF6 := hide (HF5.out.trans F6 (fun _ _ e => e)); clear F6 hq6)
        | (go_at_call 12; refine (HKA.out _).mono ?_; rintro e9 w9 ⟨rfl, F9⟩; have HF9 := hide (HF7.out.trans F9 (fun _ _ e => e)); clear F9)
        | (go_at_call 14; refine (cpyM _ _ _ _ _ (BM.up HM.out HF2.out.upw') hll).mono ?_; rintro e5 w5 ⟨v5, rfl, hb5, F5⟩; have HB5 := hide hb5; have HF5 := hide (HF2.out.trans F5 (fun _ _ e => e)); clear F5 hb5)
        | (go_at_call 8; refine (HKW.out _ _ HP1.out).mono ?_; rintro e2 w2 ⟨a2, c2, rfl, hb2, F2⟩; have HB2 := hide hb2; have HF2 := hide (HF1.out.trans F2 (fun _ _ e => e)); clear F2 hb2)
        | (go_at_call 9; refine HKC.out.mono ?_; rintro e1 w1 ⟨v1, rfl, hP1, F1⟩; have HP1 := hide hP1; have HF1 := hide F1; clear hP1 F1))
      go_ret
      exact ⟨rfl, HF9.out⟩
  | true =>
    have henc := rdPrg_enc ps h1 hsz (by omega)
    have h8 := pg_by8 ps h1 hsz (by omega)
    simp only [h1, if_true] at HKW
    generalize pgB ps = T at *
    have hTl : T.length ≤ 100000000 := by omega
    have H8 := hide h8
    have HENC := hide henc
    cases hx2 : rdPrg N lm 20000 with
    | none =>
      have HNO := hide hx2
      clear hx2
      clear hr hB b1 b2 hpg hm h1 hsz h8m henc h8
      go_enter Try.func5, Try.ntmps5
      go_wp2_with (first
        | (have hx := HB5; go_at_call 13; refine (read_no hN _ _ lm HB5.out.bl H8M.out hll HNO.out).mono ?_; rintro e6 w6 ⟨rfl, F6⟩; have HF6 := hide (HF5.out.trans F6 (fun _ _ e => e)); clear F6)
        | (go_at_call 12; refine (HKA.out _).mono ?_; rintro e9 w9 ⟨rfl, F9⟩; have HF9 := hide (HF6.out.trans F9 (fun _ _ e => e)); clear F9)
        | (go_at_call 16; refine (sameP_any _ ps ps _ _ _ _ _ (HRP.out.frP HF3.out) HQ3.out rfl rfl hpl (fun _ _ _ => rfl) (fun _ _ _ => .inl rfl) (fun _ _ _ => .inl rfl)).mono ?_; rintro e4 w4 ⟨r4, rfl, hr4, u4⟩; obtain rfl : r4 = true := hr4.2 rfl; have HF4 := hide (HF3.out.trans (upFr u4) (fun _ _ e => e)); clear hr4 u4)
        | (go_at_call 13; refine (read_yes hN _ _ T HB2.out.bl H8.out hTl ps HENC.out).mono ?_; rintro e3 w3 ⟨⟨a3, rfl, hq3⟩, F3⟩; have HQ3 := hide hq3; have HF3 := hide (HF2.out.trans F3 (fun _ _ e => e)); clear F3 hq3)
        | (go_at_call 14; refine (cpyM _ _ _ _ _ (BM.up HM.out HF4.out.upw') hll).mono ?_; rintro e5 w5 ⟨v5, rfl, hb5, F5⟩; have HB5 := hide hb5; have HF5 := hide (HF4.out.trans F5 (fun _ _ e => e)); clear F5 hb5)
        | (go_at_call 8; refine (HKW.out _ _ HP1.out).mono ?_; rintro e2 w2 ⟨a2, c2, rfl, hb2, F2⟩; have HB2 := hide hb2; have HF2 := hide (HF1.out.trans F2 (fun _ _ e => e)); clear F2 hb2)
        | (go_at_call 9; refine HKC.out.mono ?_; rintro e1 w1 ⟨v1, rfl, hP1, F1⟩; have HP1 := hide hP1; have HF1 := hide F1; clear hP1 F1))
      go_ret
      exact ⟨rfl, HF9.out⟩
    | some qs =>
      obtain ⟨el, hmq⟩ := rdPrg_back h8m hx2
      have HYES := hide hx2
      have HKW2 := hide (fun (W : World) (v' : Value) (h : RowD W (PCell W) v' qs) => writeT (by rw [← el]; omega) W v' h)
      simp only [hmq, if_true, ← el] at HKW2
      clear hx2 el hmq
      clear hr hB b1 b2 hpg hm h1 hsz h8m henc h8
      go_enter Try.func5, Try.ntmps5
      go_wp2_with (first
        | (have hx := HQ6; go_at_call 8; refine (HKW2.out _ _ HQ6.out).mono ?_; rintro e7 w7 ⟨a7, c7, rfl, hb7, F7⟩; have HB7 := hide hb7; have HF7 := hide (HF6.out.trans F7 (fun _ _ e => e)); clear F7 hb7)
        | (go_at_call 11; refine (sameBM _ _ _ _ _ lm _ _ _ HB7.out (BM.up HM.out HF7.out.upw')).mono ?_; rintro e8 w8 ⟨rfl, rfl⟩)
        | (have hx := HB5; go_at_call 13; refine (read_yes hN _ _ lm HB5.out.bl H8M.out hll qs HYES.out).mono ?_; rintro e6 w6 ⟨⟨a6, rfl, hq6⟩, F6⟩; have HQ6 := hide hq6; have HF6 := hide (HF5.out.trans F6 (fun _ _ e => e)); clear F6 hq6)
        | (go_at_call 12; refine (HKA.out _).mono ?_; rintro e9 w9 ⟨rfl, F9⟩; have HF9 := hide (HF7.out.trans F9 (fun _ _ e => e)); clear F9)
        | (go_at_call 16; refine (sameP_any _ ps ps _ _ _ _ _ (HRP.out.frP HF3.out) HQ3.out rfl rfl hpl (fun _ _ _ => rfl) (fun _ _ _ => .inl rfl) (fun _ _ _ => .inl rfl)).mono ?_; rintro e4 w4 ⟨r4, rfl, hr4, u4⟩; obtain rfl : r4 = true := hr4.2 rfl; have HF4 := hide (HF3.out.trans (upFr u4) (fun _ _ e => e)); clear hr4 u4)
        | (go_at_call 13; refine (read_yes hN _ _ T HB2.out.bl H8.out hTl ps HENC.out).mono ?_; rintro e3 w3 ⟨⟨a3, rfl, hq3⟩, F3⟩; have HQ3 := hide hq3; have HF3 := hide (HF2.out.trans F3 (fun _ _ e => e)); clear F3 hq3)
        | (go_at_call 14; refine (cpyM _ _ _ _ _ (BM.up HM.out HF4.out.upw') hll).mono ?_; rintro e5 w5 ⟨v5, rfl, hb5, F5⟩; have HB5 := hide hb5; have HF5 := hide (HF4.out.trans F5 (fun _ _ e => e)); clear F5 hb5)
        | (go_at_call 8; refine (HKW.out _ _ HP1.out).mono ?_; rintro e2 w2 ⟨a2, c2, rfl, hb2, F2⟩; have HB2 := hide hb2; have HF2 := hide (HF1.out.trans F2 (fun _ _ e => e)); clear F2 hb2)
        | (go_at_call 9; refine HKC.out.mono ?_; rintro e1 w1 ⟨v1, rfl, hP1, F1⟩; have HP1 := hide hP1; have HF1 := hide F1; clear hP1 F1))
      go_ret
      exact ⟨rfl, HF9.out⟩

end Go.Proofs.Ytilcigjhogcjkaa
